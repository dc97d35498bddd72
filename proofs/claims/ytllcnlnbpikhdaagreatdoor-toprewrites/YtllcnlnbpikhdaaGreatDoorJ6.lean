import Derived.Laws.BitsAllLaws
import Derived.Test.YtllcnlnbpikhdaaGreatDoorJ3
set_option maxHeartbeats 1000000
namespace Go.Proofs.YtllcnlnbpikhdaaGreatDoor
open Go.RowKit
theorem IJ(u:Nat)(h:u<4294967296):bits .and .u32 (u:Int) 1=((u % 2:Nat):Int):=by have e:=u32_and_nat u 1 h (by omega);rw[Nat.and_one_is_mod]at e;exact e
theorem FT(n:Nat)(h:n<4294967296):bits .xor .u32 (n:Int) 3988292384=((n ^^^ 3988292384:Nat):Int):=u32_xor_nat n 3988292384 h (by decide)
theorem yJ(n:Nat)(h:n<4294967296):bits .xor .u32 (n:Int) 0=(n:Int):=by have e:=u32_xor_nat n 0 h (by decide);rw[Nat.xor_zero]at e;exact e
theorem uH(u:Nat)(h:u % 2=1):rB u=u / 2 ^^^ 3988292384:=by unfold rB;rw[h,Nat.one_mul]
theorem tL(u:Nat)(h:u % 2=0):rB u=u / 2:=by unfold rB;rw[h,Nat.zero_mul,Nat.xor_zero]
theorem F6(u:Nat)(h:u<4294967296)(h1:u % 2=1):bits .xor .u32 ((u:Int) / 2) 3988292384=((rB u:Nat):Int):=by
 have e2:(u:Int) / 2=((u / 2:Nat):Int):=by omega
 rw[e2,uH u h1];exact FT (u / 2) (by omega)
theorem Ga(u:Nat)(h:u<4294967296):bits .xor .u32 ((u:Int) / 2) (bits .and .u32 (u:Int) 1*3988292384 % 4294967296)=((rB u:Nat):Int):=by
 rw[IJ u h];rcases Nat.mod_two_eq_zero_or_one u with h1 | h1
 ·have e3:((u % 2:Nat):Int)*3988292384 % 4294967296=0:=(by rw[h1];rfl);have e2:(u:Int) / 2=((u / 2:Nat):Int):=(by omega);rw[e3,e2,tL u h1];exact yJ (u / 2) (by omega)
 ·have e3:((u % 2:Nat):Int)*3988292384 % 4294967296=3988292384:=(by rw[h1];rfl);rw[e3];exact F6 u h h1
theorem A9(u:Nat)(h:u<4294967296):bits .xor .u32 4294967295 (u:Int)=((mU u:Nat):Int):=by
 have e:=u32_xor_nat 4294967295 u (by omega) h;have e2:4294967295 ^^^ u=mU u:=by have hb:(BitVec.allOnes 32 ^^^ BitVec.ofNat 32 u).toNat=(~~~ BitVec.ofNat 32 u).toNat:=(by rw[BitVec.allOnes_xor]);rw[BitVec.toNat_xor,BitVec.toNat_not,BitVec.toNat_allOnes,BitVec.toNat_ofNat,Nat.mod_eq_of_lt (show u<2 ^ 32 by omega)]at hb;exact hb
 rw[e2]at e;exact e
theorem uG(w:World)(r:Nat)(hr:r<4294967296):
  Calls Tryz.prog 75 #[.int .u32 (r:Nat)] w λe w'=>e=.returned (.int .u32 (BC r:Nat))/\w'=w:=by
 go_enter Tryz.func75,Tryz.ntmps75;go_wp2;go_loopg [0,4] 8 (λk x z wr=>∃i u:Nat,i<=8/\8-i<=k/\z=.int .i64 (i:Nat)/\x=.int .u32 (u:Nat)/\u=wW i r/\wr=w)
 case atStart=>exact⟨0,r,by omega,by omega,rfl,rfl,rfl,rfl⟩
 case round=>
  obtain⟨i,u,hi,G4,rfl,rfl,hu,rfl⟩:=hrel;have HU:Hid (u=wW i r):=hu;have xW:u<4294967296:=(by rw[hu];exact uJ hr i);clear hu;by_cases hlt:i<8
  ·go_wp2
   go_roundg (gk-1)
   case measure=>omega
   case rel=>
    exact⟨i+1,rB u,by omega,by omega,by go_num,by rw[Ga u xW],by rw[HU.out];rfl,rfl⟩
  ·have ye:i=8:=(by omega);subst ye;go_wp2;go_ret;rw[HU.out];exact⟨rfl,rfl⟩
theorem DI(w:World)(v:Value)(I:Nat→Prop)(cs:List Nat)(hsrc:Src w I v cs)(hb:∀b∈cs,b<256)(s:Nat)(hs:s<4294967296)(ag:cs.length≤100000000):
  Calls Tryz.prog 50 #[.int .u32 (s:Nat),v] w λe w'=>e=.returned (.int .u32 (more s cs:Nat))/\w'=w:=by
 obtain⟨ao,cap,rfl,B6⟩:=id hsrc;have HB:Hid (∀b∈cs,b<256):=hb;have HSA:Hid (cs≠[]->∃b o,ao=some ⟨b,o,none⟩/\I b/\∀j (_:j<cs.length),w.cell? ⟨b,o+j,none⟩=some (.int .u8 (cs[j]:Nat))):=B6;clear hsrc B6 hb;go_enter Tryz.func50,Tryz.ntmps50;go_wp2_with fail;go_loopg [5,12] cs.length (λk x z wr=>∃i u:Nat,i<=cs.length/\cs.length-i<=k/\z=.int .i64 (i:Nat)/\x=.int .u32 (u:Nat)/\u=Ll (mU s) (cs.take i)/\wr=w)
 case atStart=>exact⟨0,mU s,by omega,by omega,rfl,by rw[<-A9 s hs];first | rfl | simp,rfl,rfl⟩
 case round=>
  obtain⟨i,u,hi,G4,rfl,rfl,hu,rfl⟩:=hrel;have HU:Hid (u=Ll (mU s) (cs.take i)):=hu;have xW:u<4294967296:=(by rw[hu];exact Lc (uE _) _ (λb hb=>HB.out b (List.mem_of_mem_take hb)));clear hu;by_cases hlt:i<cs.length
  ·obtain⟨b,o,rfl,_,og⟩:=HSA.out (by intro e;rw[e]at hlt;simp at hlt);have d1:=og i hlt;obtain⟨x,hx⟩:∃x,x=cs[i]:=⟨_,rfl⟩
   have fX:x<256:=(by rw[hx];exact HB.out _ (List.getElem_mem _));have HX:Hid (x=cs[i]):=hx;have HC:=λw=>uG w (u ^^^ x) (qX xW (by omega))
   have Yd:bits .xor .u32 (u:Int) (x:Int)=((u ^^^ x:Nat):Int):=u32_xor_nat u x xW (by omega);rw[<-hx]at d1;clear og hx HSA;go_wp2_with fail;refine(HC _).mono ?_;rintro e w' ⟨rfl,rfl⟩;go_wp2_with fail;go_roundg (gk-1)
   case measure=>omega
   case rel=>
    refine⟨i+1,BC (u ^^^ x),by omega,by omega,by go_num,rfl,?_,rfl⟩;rw[List.take_succ_eq_append_getElem hlt,F4,<-HU.out,<-HX.out]
  ·have ye:i=cs.length:=(by omega);subst ye;go_wp2_with fail;go_ret;have h1:=HU.out;rw[List.take_of_length_le (Nat.le_refl _)]at h1;refine⟨?_,rfl⟩;have h2:=A9 u xW;unfold more;rw[<-h1,<-h2]
   first | rfl | simp
theorem iU(w:World)(v:Value)(I:Nat→Prop)(cs:List Nat)(hsrc:Src w I v cs)(hb:∀b∈cs,b<256)(ag:cs.length≤100000000):
  Calls Tryz.prog 31 #[v] w λe w'=>e=.returned (.int .u32 (more 0 cs:Nat))/\w'=w:=by
 have HC:=DI w v I cs hsrc hb 0 (by omega) ag;go_enter Tryz.func31,Tryz.ntmps31;go_wp2_with fail;refine HC.mono ?_;rintro e w' ⟨rfl,rfl⟩;go_wp2_with fail;go_ret;exact⟨rfl,rfl⟩
theorem Gs(V b u k got:Nat)(hV:V<2 ^ got)(hb:b<256)(hk:k≤8)(hg:got+k≤32):
  bits .or .u32 (V:Int) (bits .and .u32 ((b:Int) % 4294967296 / 2 ^ u) ((2 ^ k-1) % 4294967296)*2 ^ got % 4294967296)=((V+2 ^ got*(b / 2 ^ u % 2 ^ k):Nat):Int):=by
 have hk2:2 ^ k<=2 ^ 8:=Nat.pow_le_pow_right (by omega) hk;have hk0:0<2 ^ k:=Nat.two_pow_pos k;have e1:((b:Int) % 4294967296 / 2 ^ u)=((b / 2 ^ u:Nat):Int):=by rw[show((b:Int) % 4294967296)=(b:Int)by omega];simp
 have e2:(((2:Int) ^ k-1) % 4294967296)=((2 ^ k-1:Nat):Int):=by have:((2:Int) ^ k)=((2 ^ k:Nat):Int):=(by simp);rw[this];omega
 have h1:b / 2 ^ u<4294967296:=Nat.lt_of_le_of_lt (Nat.div_le_self _ _) (by omega);have h2:2 ^ k-1<4294967296:=by omega
 rw[e1,e2,u32_and_nat _ _ h1 h2,vZ];have hm:b / 2 ^ u % 2 ^ k<2 ^ k:=Nat.mod_lt _ hk0;have hlt:b / 2 ^ u % 2 ^ k*2 ^ got<4294967296:=by have h3:b / 2 ^ u % 2 ^ k*2 ^ got<2 ^ k*2 ^ got:=Nat.mul_lt_mul_of_pos_right hm (Nat.two_pow_pos _);have h4:2 ^ k*2 ^ got<=2 ^ 32:=(by rw[<-Nat.pow_add];exact Nat.pow_le_pow_right (by omega) (by omega));omega
 have e3:(((b / 2 ^ u % 2 ^ k:Nat):Int)*2 ^ got % 4294967296)=((b / 2 ^ u % 2 ^ k*2 ^ got:Nat):Int):=by have:((2:Int) ^ got)=((2 ^ got:Nat):Int):=(by simp);rw[this,<-Int.natCast_mul];omega
 have Q5:V<4294967296:=by have:2 ^ got<=2 ^ 32:=Nat.pow_le_pow_right (by omega) (by omega);omega
 rw[e3,u32_or_nat _ _ Q5 hlt,Nat.mul_comm,GE _ _ _ hV]
theorem AQ{w wr:World}{p:Nat}{s:Value}{bs:List Nat}{c n got k gk nq V b:Nat}(hs:St wr p s bs (c+got))(hkp:Kept (·=p) w wr)(hlt:(c+got) / 8<bs.length)(hb:b=bs[(c+got) / 8])(hV:V=aN bs / 2 ^ c % 2 ^ got)
  (hk:(c+got) % 8+k<=8) (Si:got+k<=n) (hn:n<=32) (oI:n-(got+k)<=gk) {M G C:Int} (hM:M=bits .or .u32 (V:Int) (bits .and .u32 ((b:Int) % 4294967296 / 2 ^ ((c+got) % 8)) ((2 ^ k-1) % 4294967296)*2 ^ got % 4294967296))
  (hG:G=((got+k:Nat):Int)) (hC:C=((c+(got+k):Nat):Int)):
  ∃got':Nat,got'<=n/\n-got'<=gk/\Value.int .u32 M=.int .u32 (aN bs / 2 ^ c % 2 ^ got':Nat)/\Value.int .i64 G=.int .i64 (got':Nat)/\St ((wr.drewN nq).setCell ⟨p,1,none⟩ (.int .i64 C)) p s bs (c+got')/\Kept (·=p) w ((wr.drewN nq).setCell ⟨p,1,none⟩ (.int .i64 C)):=by
 have Re:b<256:=by rw[hb];exact hs.byte _ (List.getElem_mem _)
 have Rr:V<2 ^ got:=by rw[hV];exact Nat.mod_lt _ (Nat.two_pow_pos _)
 have e:=FK bs hs.byte c got k hk hlt;subst hG hC;refine⟨got+k,Si,oI,?_,rfl,(hs.drewN nq).setCount _,(hkp.drewN nq).setCell _ _ (.inl rfl)⟩;rw[hM,Gs V b _ k got Rr Re (by omega) (by omega),<-e,hb,hV]
theorem I7(w:World)(p:Nat)(s:Value)(bs:List Nat)(c n:Nat)(hst:St w p s bs c)(hn:n≤32)(hc:c+n≤8*bs.length)(ag:bs.length≤100000000000):
  Calls Tryz.prog 150 #[.pointer (some ⟨p,0,none⟩),.int .i64 (n:Nat)] w λe w'=>e=.returned (.int .u32 (aN bs / 2 ^ c % 2 ^ n:Nat)) /\
   St w' p s bs (c+n)/\Kept (·=p) w w':=by
 go_enter Tryz.func150,Tryz.ntmps150;go_wp2;go_step3;go_wp2;go_step3;go_wp2;go_loopg [5,6] n (λk x y wr=>∃got:Nat,got<=n/\n-got<=k/\x=.int .u32 (aN bs / 2 ^ c % 2 ^ got:Nat)/\y=.int .i64 (got:Nat)/\St wr p s bs (c+got)/\Kept (·=p) w wr)
 case atStart=>exact⟨0,by omega,by omega,by simp[Nat.mod_one],rfl,hst,Kept.refl _ _⟩
 case round=>
  obtain⟨got,rM,td,rfl,rfl,hs,hk⟩:=hrel;have HS:Hid (St wr p s bs (c+got)):=hs;have HK:Hid (Kept (·=p) w wr):=hk;by_cases h0:got=n
  ·subst h0;clear hst hs;go_wp2;rw[Exit.noGoto_ret];go_ret;exact⟨rfl,HS.out,HK.out⟩
  ·obtain⟨ao,cap,hv,hg⟩:=hs.row.shape;have hlt:(c+got) / 8<bs.length:=(by omega);obtain⟨g,KT⟩:=hg (by intro e;rw[e]at hlt;simp at hlt);subst KT;have bO:wr.cell? ⟨g,(c+got) / 8,none⟩=some (.int .u8 (bs[(c+got) / 8]:Nat)):=by
    have hr:=hs.row;rw[hv]at hr;exact Row.cell hr _ hlt
   have og:=hs.cb;have om:=hs.cc;have Na:=hs.fc;rw[hv]at og;obtain⟨u,hu⟩:∃u,u=(c+got) % 8:=⟨_,rfl⟩
   obtain⟨b,hb⟩:∃b,b=bs[(c+got) / 8]:=⟨_,rfl⟩
   rw[<-hb]at bO;obtain⟨V,hV⟩:∃V,V=aN bs / 2 ^ c % 2 ^ got:=⟨_,rfl⟩
   rw[<-hV];have HB:Hid (b=bs[(c+got) / 8]):=hb;have HU:Hid (V=aN bs / 2 ^ c % 2 ^ got):=hV;clear hst hs hk hv hg hu hb hV;by_cases hp:8-(c+got) % 8<=n-got
   ·go_wp2
    go_quiet (fail)
    go_wp2
    go_roundg (gk-1)
    case measure=>omega
    case rel=>
     exact AQ (k:=8-(c+got) % 8) HS.out HK.out hlt HB.out HU.out (by omega) (by omega) hn (by omega) rfl (by omega) (by omega)
   ·go_wp2
    go_quiet (fail)
    go_wp2
    go_roundg (gk-1)
    case measure=>omega
    case rel=>
     exact AQ (k:=n-got) HS.out HK.out hlt HB.out HU.out (by omega) (by omega) hn (by omega) rfl (by omega) (by omega)
structure Lays(w0 w:World)(p:Nat)(v0:Value)(X T:Nat)(v n:Nat)(s:Value)(bs:List Nat)(c:Nat):Prop where
 st:St w p s bs c
 kept:Kept (Fp p v0) w0 w
 own:s.ownBlock=v0.ownBlock\/∀k,s.ownBlock=some k->w0.heap.size<=k
 sum:aN bs+v*2 ^ c=X
 cnt:c+n=T
 lo:c<=8*bs.length
 hi:8*bs.length<=c+8
 hn:8*bs.length=c+8->0<n
 hv:v<2 ^ n
 hx:aN bs<2 ^ c
theorem FY{w0 wr w1:World}{p:Nat}{v0 s v':Value}{X T v n c nq:Nat}{bs:List Nat}(h:Lays w0 wr p v0 X T v n s bs c)(h8:8*bs.length=c)(h0:0<n){o:Obj}
  (hrow:Row w1 v' (bs++[0])) (hg:((wr.drewN nq).alloc o).grownBy w1 s.ownBlock)
  (iF:v'.ownBlock=s.ownBlock\/v'.ownBlock=some (((wr.drewN nq).alloc o).heap.size)):
  Lays w0 (w1.setCell ⟨p,0,none⟩ v') p v0 X T v n v' (bs++[0]) c:=by
 have hk1:Kept (λk=>s.ownBlock=some k) wr w1:=(((Kept.refl _ wr).drewN nq).alloc o).grown hg (λk e=>.inl e);have cX:w0.heap.size<=wr.heap.size:=h.kept.size;have hlt:=h.st.lt;have hv:v'.ownBlock=s.ownBlock\/∀k,v'.ownBlock=some k->wr.heap.size<=k:=by
  rcases iF with e | e
  ·exact .inl e
  ·refine .inr (λk e'=>?_);rw[e]at e';simp at e';omega
 have bh:v'.ownBlock≠some p:=by
  rcases hv with e | e
  ·rw[e];exact h.st.ne
  ·intro e';have:=e p e';omega
 refine⟨h.st.setBytes hk1 hrow bh ?_,?_,?_,?_,h.cnt,by simp;omega,by simp;omega,λ_=>h0,h.hv,?_⟩
 ·intro b hb;rcases List.mem_append.1 hb with hb | hb
  ·exact h.st.byte b hb
  ·simp at hb;omega
 ·refine(Kept.trans (H:=Fp p v0) h.kept hk1 (λ_ _ e=>e) ?_).setCell _ _ (.inl (.inl rfl));intro x hx e;rcases h.own with e' | e'
  ·exact .inr (by rw[<-e',e])
  ·have:=e' x e;omega
 ·rcases hv with e | e
  ·rw[e];exact h.own
  ·exact .inr (λk e'=>Nat.le_trans cX (e k e'))
 ·rw[fz];simpa[aN]using h.sum
 ·rw[fz];simpa[aN]using h.hx
theorem GQ{w0 wr:World}{p:Nat}{v0 s:Value}{X T v c:Nat}{bs:List Nat}(h:Lays w0 wr p v0 X T v 0 s bs c)(nq:Nat):Lays w0 (wr.drewN nq) p v0 X T 0 0 s bs T:=by
 have e:T=c:=by have:=h.cnt;omega
 have hv:v=0:=by have:=h.hv;simp at this;exact this
 subst e hv;exact⟨h.st.drewN nq,h.kept.drewN nq,h.own,h.sum,rfl,h.lo,h.hi,h.hn,by simp,h.hx⟩
theorem Fe{w0 wr:World}{p:Nat}{v0:Value}{X T v n c g cap b free:Nat}{bs:List Nat}(h:Lays w0 wr p v0 X T v n (.slice (some ⟨g,0,none⟩) (bs.length+1) cap) (bs++[b]) c)
  (hf:c+free=8*(bs.length+1)) (MP:0<free) (hn:0<n) (nq:Nat):
  Lays w0 (((wr.drewN nq).setCell ⟨g,bs.length,none⟩ (.int .u8 (b ||| (v*2 ^ (8-free) % 256):Nat))).setCell ⟨p,1,none⟩ (.int .i64 (c+min free n:Nat))) p v0 X T (v / 2 ^ min free n) (n-min free n)
   (.slice (some ⟨g,0,none⟩) (bs.length+1) cap) (bs++[b ||| (v*2 ^ (8-free) % 256)]) (c+min free n):=by
 have Sj:free<=8:=by have:=h.hi;simp at this;omega
 have hb:=I9 bs b c free (by omega) Sj h.hx;have hx:b ||| (v*2 ^ (8-free) % 256)=b+2 ^ (8-free)*(v % 2 ^ free):=by rw[Gk v free Sj];exact GE _ _ _ hb
 have TY:b ||| (v*2 ^ (8-free) % 256)<256:=by have h1:b<2 ^ 8:=h.st.byte b (by simp);have h2:v*2 ^ (8-free) % 256<2 ^ 8:=Nat.mod_lt _ (by decide);exact Nat.or_lt_two_pow h1 h2
 have Nu:Row wr (.slice (some ⟨g,0,none⟩) (bs.length+1) cap) (bs++[b]):=h.st.row;have hst:=World.ownsRow.stored (n:=bs.length+1) (by simpa[Row]using Nu) bs.length (.int .u8 (b ||| (v*2 ^ (8-free) % 256):Nat));have Oi:Row (wr.setCell ⟨g,bs.length,none⟩ (.int .u8 (b ||| (v*2 ^ (8-free) % 256):Nat))) (.slice (some ⟨g,0,none⟩) (bs.length+1) cap) (bs++[b ||| (v*2 ^ (8-free) % 256)]):=by have:=hst.1;rw[List.set_append_right _ _ (by simp)]at this;simpa[Row,bj]using this
 have NE:g≠p:=by have:=h.st.ne;simpa[Value.ownBlock]using this
 have hk1:Kept (·=g) wr (wr.setCell ⟨g,bs.length,none⟩ (.int .u8 (b ||| (v*2 ^ (8-free) % 256):Nat))):=(Kept.refl _ wr).setCell _ _ (.inl rfl);have hs1:St (wr.setCell ⟨g,bs.length,none⟩ (.int .u8 (b ||| (v*2 ^ (8-free) % 256):Nat))) p (.slice (some ⟨g,0,none⟩) (bs.length+1) cap) (bs++[b ||| (v*2 ^ (8-free) % 256)]) c:=by
  refine⟨hk1.cell h.st.cb (Ne.symm NE),hk1.cell h.st.cc (Ne.symm NE),(hk1.frozen h.st.lt (Ne.symm NE)).trans h.st.fb,(hk1.frozen h.st.lt (Ne.symm NE)).trans h.st.fc,Oi,h.st.ne,?_⟩;intro y hy;rcases List.mem_append.1 hy with hy | hy
  ·exact h.st.byte y (by simp[hy])
  ·simp at hy;subst hy;exact TY
 have yh:aN (bs++[b ||| (v*2 ^ (8-free) % 256)])=aN (bs++[b])+2 ^ c*(v % 2 ^ free):=by rw[hx];exact FF bs b c free _ (by omega) Sj
 refine⟨(hs1.setCount (c+min free n)).drewN nq,?_,h.own,?_,?_,?_,?_,?_,?_,?_⟩
 ·have hk2:=(Kept.refl (Fp p v0) (wr.setCell ⟨g,bs.length,none⟩ (.int .u8 (b ||| (v*2 ^ (8-free) % 256):Nat)))).setCell ⟨p,1,none⟩ (.int .i64 (c+min free n:Nat)) (.inl (.inl rfl));refine(Kept.trans (H:=Fp p v0) ?_ hk2 (λ_ _ e=>e) (λ_ _ e=>e)).drewN nq;refine Kept.trans (H:=Fp p v0) h.kept hk1 (λ_ _ e=>e) ?_;intro x Yu e;rcases h.own with e' | e'
  ·exact .inr (by rw[<-e',e];rfl)
  ·have:=e' x (by rw[e];rfl);omega
 ·rw[yh,FQ _ _ _ _ _ h.hv];exact h.sum
 ·have:=h.cnt;omega
 ·simp;omega
 ·simp;omega
 ·intro e;simp at e;omega
 ·have hv:=h.hv;rw[Nat.div_lt_iff_lt_mul (Nat.two_pow_pos _),<-Nat.pow_add,show n-min free n+min free n=n by omega];exact hv
 ·rw[yh,Nat.pow_add];have h1:=h.hx;have h2:v % 2 ^ free<2 ^ min free n:=by
   by_cases KX:free<=n
   ·rw[Nat.min_eq_left KX];exact Nat.mod_lt _ (Nat.two_pow_pos _)
   ·rw[Nat.min_eq_right (by omega)];exact Nat.lt_of_le_of_lt (Nat.mod_le _ _) h.hv
  have h3:2 ^ c*(v % 2 ^ free+1)<=2 ^ c*2 ^ min free n:=Nat.mul_le_mul_left _ h2;rw[Nat.mul_add]at h3;omega
theorem uN{w0 wr:World}{p:Nat}{v0 s:Value}{X T v n c g cap b free m k:Nat}{bs bs1:List Nat}(h:Lays w0 wr p v0 X T v n s bs1 c)(hs:s=.slice (some ⟨g,0,none⟩) bs1.length cap)(hb:bs1=bs++[b]∧m=bs.length)
  (hf:c+free=8*(m+1)) (MP:0<free) (hn:0<n) (nq:Nat) {B V N C:Int} (hB:B=bits .or .u8 (b:Int) ((v:Int)*2 ^ (8-free) % 256)) (hV:V=(v:Int) / 2 ^ min free n) (hN:N=((n-min free n:Nat):Int)) (hC:C=((c+min free n:Nat):Int)) (hk:2*n-1<=k):
  ∃s' bs' c' v' n',Value.int .u32 V=Value.int .u32 (v':Nat)/\Value.int .i64 N=Value.int .i64 (n':Nat)/\(2*n'+if c'=8*bs'.length then 1 else 0)<=k /\
   Lays w0 (((wr.drewN nq).setCell ⟨g,m,none⟩ (.int .u8 B)).setCell ⟨p,1,none⟩ (.int .i64 C)) p v0 X T v' n' s' bs' c':=by
 obtain⟨rfl,rfl⟩:=hb;rw[List.length_append,List.length_singleton]at hs;subst hs;have R:=Fe h hf MP hn nq;have Re:b<256:=h.st.byte b (by simp);have e:((v:Int)*2 ^ (8-free) % 256)=((v*2 ^ (8-free) % 256:Nat):Int):=by simp
 rw[e,u8_or_nat b _ Re (Nat.mod_lt _ (by decide))]at hB;subst hB hN hC;refine⟨_,_,_,v / 2 ^ min free n,n-min free n,by rw[hV];simp,rfl,?_,R⟩;split<;>omega
theorem Ju(w:World)(p:Nat)(s:Value)(bs:List Nat)(c v n:Nat)(hst:St w p s bs c)(hv:v<2 ^ n)(hn:n≤32)(hc:c≤1000000000000)
  (lB:c<=8*bs.length) (yp:8*bs.length<c+8) (hx:aN bs<2 ^ c):
  Calls Tryz.prog 104 #[.pointer (some ⟨p,0,none⟩),.int .u32 v,.int .i64 n] w λe w'=>e=.returned (.tuple #[]) /\
   ∃s' bs',Lays w w' p s (aN bs+v*2 ^ c) (c+n) 0 0 s' bs' (c+n):=by
 go_enter Tryz.func104,Tryz.ntmps104;go_wp2;go_step3;go_wp2;go_step3;go_wp2;go_loopg [1,2] (2*n+1) (λk x y wr=>∃s' bs' c' v' n',x=.int .u32 (v':Nat)/\y=.int .i64 (n':Nat)/\2*n'+(if c'=8*bs'.length then 1 else 0)<=k/\Lays w wr p s (aN bs+v*2 ^ c) (c+n) v' n' s' bs' c')
 case atStart=>exact⟨s,bs,c,v,n,rfl,rfl,by split<;>omega,hst,Kept.refl _ _,.inl rfl,rfl,rfl,lB,by omega,by omega,hv,hx⟩
 case round=>
  obtain⟨s1,bs1,c1,v1,n1,rfl,rfl,hk,hl⟩:=hrel;have HL:Hid (Lays w wr p s (aN bs+v*2 ^ c) (c+n) v1 n1 s1 bs1 c1):=hl;have om:=hl.st.cc;have og:=hl.st.cb;have Iz:=hl.st.fb;have Na:=hl.st.fc;have Rk:=hl.lo;have R9:=hl.hi;have ti:=hl.cnt;obtain⟨ao,cap,hs,hg⟩:=hl.st.row.shape;have HS:Hid (s1=Value.slice ao bs1.length cap):=hs;have HK:Hid (2*n1+(if c1=8*bs1.length then 1 else 0)<=gk):=hk;rw[hs]at og;obtain⟨L,hL⟩:∃L,L=bs1.length:=⟨_,rfl⟩
  rw[<-hL]at og Rk R9;have HLL:Hid (L=bs1.length):=hL;clear hk hL hst lB yp hx hv hs hg hl;have VT:c1+n1<=1000000000032:=(by omega);clear ti;by_cases h0:n1=0
  ·go_wp2
   go_quiet (fail)
   go_wp2
   rw[Exit.noGoto_normal];go_end0;have hl:=HL.out;subst h0;exact⟨rfl,s1,bs1,GQ hl nq⟩
  ·by_cases h8:8*L=c1
   ·go_wp2
    go_quiet (fail)
    have hrow:Row (wr.drewN nq) (.slice ao L cap) bs1:=(by have:=HL.out.st.row;rw[HS.out,<-HLL.out]at this;exact this);have HR:Hid (Row ((wr.drewN nq).alloc (.cells #[.int .u8 0] 5)) (.slice ao L cap) bs1):=World.ownsRow.alloc hrow _;have HLn:Hid (bs1.length+[0].length<=1000000000000):=(by have:=HLL.out;show bs1.length+1<=_;omega);clear hrow;go_wp2_with (at_builtin;refine eA _ rfl (.tmp 65) (.tmp 66) rfl (.slice ao L cap) bs1 rfl HR.out ⟨wr.heap.size,0,none⟩ 1 1 [0] rfl rfl (ip _ 0) HLn.out ?_);intro v' w1 hrow me iF;have hl:=HL.out;have hs:=HS.out;rw[<-HLL.out]at hs;rw[<-hs]at me iF;have R:=FY hl (by rw[<-HLL.out];exact h8) (by omega) hrow me (by simpa using iF);have hk1:Kept (λk=>s1.ownBlock=some k) wr w1:=(((Kept.refl _ wr).drewN nq).alloc _).grown me (λk e=>.inl e);have O6:=hk1.cell hl.st.cb hl.st.ne;have VE:=(hk1.frozen (p:=⟨p,0,none⟩) hl.st.lt hl.st.ne).trans hl.st.fb;have hm:2*n1+1<=gk:=(by have:=HK.out;rw[if_pos (by rw[<-HLL.out];omega)]at this;exact this);obtain⟨ao',cap',OP,_⟩:=Row.shape hrow;have RR:Hid (Lays w (w1.setCell ⟨p,0,none⟩ v') p s (aN bs+v*2 ^ c) (c+n) v1 n1 v' (bs1++[0]) c1):=R;have eL:(bs1++[0]).length=bs1.length+1:=(by simp);rw[eL]at OP;rw[OP]at RR ⊢;clear hrow me iF hl hs R hk1 OP HR eL;go_wp2;go_roundg (2*n1)
    case measure=>omega
    case rel=>exact⟨_,_,c1,v1,n1,rfl,rfl,by rw[if_neg (by rw[List.length_append];have:=HLL.out;simp;omega)];omega,RR.out⟩
   ·obtain⟨bs2,b,hb⟩:∃bs2 b,bs1=bs2++[b]:=by
     have bh:bs1≠[]:=(by intro e;have:=HLL.out;rw[e]at this;simp at this;omega);exact⟨bs1.dropLast,bs1.getLast bh,(List.dropLast_concat_getLast bh).symm⟩
    obtain⟨m,hm⟩:∃m,m=bs2.length:=⟨_,rfl⟩
    have SQ:L=m+1:=(by rw[HLL.out,hb,hm];simp);subst SQ;have hl:=HL.out;obtain⟨g,KT,bO,U7⟩:∃g,ao=some ⟨g,0,none⟩/\wr.cell? ⟨g,m,none⟩=some (.int .u8 (b:Nat))/\wr.frozen? ⟨g,m,none⟩=false:=by
     obtain⟨ao',cap',e1,e2⟩:=hl.st.row.shape;have e3:=HS.out;rw[e1]at e3;injection e3 with e3 e4 e5;obtain⟨g,e6⟩:=e2 (by rw[hb];simp);subst e3 e5 e6;have hr:=hl.st.row;rw[e1]at hr;refine⟨g,rfl,?_,?_⟩
     ·rw[Row.cell hr m (by rw[hb,hm];simp)];simp[hb,hm]
     ·exact World.ownsRow.frozenAt hr m
    subst KT;have HB:Hid (bs1=bs2++[b]/\m=bs2.length):=⟨hb,hm⟩
    clear hb hm hl;obtain⟨f,hf⟩:∃f,c1+f=8*(m+1):=⟨8*(m+1)-c1,by omega⟩
    have NE:¬p=g:=(by intro e;have:=HL.out.st.ne;rw[HS.out]at this;exact this (by rw[e];rfl));by_cases KX:f<=n1
    ·go_wp2
     go_quiet (fail)
     go_wp2_with fail;go_region
     go_wp2
     have hm:2*n1<=gk:=(by have:=HK.out;omega);go_roundg (2*n1-1)
     case measure=>omega
     case rel=>
      have MF:min f n1=f:=(by omega);exact uN HL.out HS.out HB.out hf (by omega) (by omega) (nq+1) (by rw[show(m+1)*8-c1=f by omega]) (by rw[MF,show(m+1)*8-c1=f by omega]) (by omega) (by omega) (Nat.le_refl _)
    ·go_wp2
     go_quiet (fail)
     go_wp2_with fail;go_region
     go_wp2
     have hm:2*n1<=gk:=(by have:=HK.out;omega);go_roundg (2*n1-1)
     case measure=>omega
     case rel=>
      have MF:min f n1=n1:=(by omega);exact uN HL.out HS.out HB.out hf (by omega) (by omega) (nq+1) (by rw[show(m+1)*8-c1=f by omega]) (by rw[MF]) (by omega) (by omega) (Nat.le_refl _)
structure Wr(w:World)(p:Nat)(s:Value)(X c:Nat):Prop where
 ex:∃bs,St w p s bs c/\aN bs=X/\c<=8*bs.length/\8*bs.length<c+8
 lt:X<2 ^ c
def Qn(w:World)(s s':Value):Prop:=s'.ownBlock=s.ownBlock\/∀k,s'.ownBlock=some k->w.heap.size<=k
theorem Wr.kept{F:Nat->Prop}{w w':World}{p:Nat}{s:Value}{X c:Nat}(h:Wr w p s X c)(hk:Kept F w w')(hn:∀k,Fp p s k->¬F k):Wr w' p s X c:=by obtain⟨bs,h1,h2⟩:=h.ex;exact⟨⟨bs,h1.kept hk hn,h2⟩,h.lt⟩
theorem Wr.fp_lt{w:World}{p:Nat}{s:Value}{X c:Nat}(h:Wr w p s X c){k:Nat}(hk:Fp p s k):k<w.heap.size:=by obtain⟨bs,h1,_⟩:=h.ex;exact h1.fp_lt hk
theorem rA(w:World):
  Calls Tryz.prog 102 #[] w λe w'=>e=.returned (.pointer (some ⟨w.heap.size,0,none⟩))/\Wr w' w.heap.size (.slice none 0 0) 0 0/\Kept (λ_=>False) w w'/\w'.heap.size=w.heap.size+1:=by
 go_enter Tryz.func102,Tryz.ntmps102;go_wp2;go_ret;refine⟨rfl,⟨⟨[],⟨by simp,by simp,by simp,by simp,World.ownsRow_nil _ _ _ _,by simp[Value.ownBlock],by simp⟩,rfl,by simp,by simp⟩,by simp⟩,(Kept.refl _ w).alloc _,by simp⟩
theorem qx(n:Int)(w:World):
  Calls Tryz.prog 103 #[.int .i64 n] w λe w'=>e=.returned (.bool (decide (0<=n/\n<=32)))/\w'=w:=by
 by_cases h0:0<=n
 ·by_cases h1:n<=32
  all_goals
   go_enter Tryz.func103,Tryz.ntmps103;go_wp2;go_ret;exact⟨by simp[h0,h1],rfl⟩
 ·go_enter Tryz.func103,Tryz.ntmps103;go_wp2;go_ret;exact⟨by simp;omega,rfl⟩
theorem Ft(p v n X c:Nat)(s:Value)(w:World)(h:n≤32)(hv:v<2 ^ n)(hw:Wr w p s X c)(hc:c≤1000000000000):
  Calls Tryz.prog 79 #[.pointer (some ⟨p,0,none⟩),.int .u32 (v:Nat),.int .i64 (n:Nat)] w λe w'=>e=.returned (.int .i64 0) /\
   ∃s',Wr w' p s' (X+v*2 ^ c) (c+n)/\Kept (Fp p s) w w'/\Qn w s s':=by
 have hd:decide (0<=(n:Int)/\(n:Int)<=32)=true:=by simp;omega
 have hq:(v:Int) / 2 ^ n=0:=by rw[show((v:Int) / 2 ^ n)=((v / 2 ^ n:Nat):Int)by simp,Nat.div_eq_of_lt hv];rfl
 obtain⟨bs,hst,hX,lB,yp⟩:=hw.ex;have HX:Hid (aN bs=X):=hX;have HW:Hid (X<2 ^ c):=hw.lt;have HC:=Ju w p s bs c v n hst hv h hc lB yp (by rw[hX];exact hw.lt);clear hX hw hst lB yp;go_enter Tryz.func79,Tryz.ntmps79;go_wp2_with (first | (go_at_call 103;refine(qx _ _).mono ?_;rintro e w' ⟨rfl,rfl⟩;rw[hd]) | (go_at_call 104;refine HC.mono ?_;rintro e w' ⟨rfl,s',bs',hl⟩));go_ret;refine⟨rfl,s',⟨⟨bs',hl.st,?_,hl.lo,?_⟩,?_⟩,hl.kept,hl.own⟩
 ·have:=hl.sum;rw[HX.out]at this;simpa using this
 ·have:=hl.hi;have:=hl.hn;omega
 ·have h1:=hl.sum;have h2:=hl.hx;rw[HX.out]at h1;simp at h1;omega
theorem yA(p:Nat)(c X:Nat)(s:Value)(w:World)(h:Wr w p s X c)(hc:c≤1000000000000):
  Calls Tryz.prog 78 #[.pointer (some ⟨p,0,none⟩)] w λe w'=>e=.returned (.int .i64 0)/\Wr w' p s X ((c+7) / 8*8)/\Kept (Fp p s) w w':=by
 obtain⟨bs,hst,hX,lB,yp⟩:=h.ex;have Na:=hst.fc;have om:=hst.cc;have og:=hst.cb;have HX:Hid (aN bs=X):=hX;have HW:Hid (X<2 ^ c):=h.lt;have HS:Hid (St w p s bs c):=hst;obtain⟨ao,cap,hs,_⟩:=hst.row.shape;rw[hs]at og;have hL:bs.length<=1000000000000:=by omega
 clear h hst hX hs;go_enter Tryz.func78,Tryz.ntmps78;go_wp2;go_ret;have e:(c+7) / 8*8=bs.length*8:=by omega
 refine⟨rfl,?_,(Kept.refl _ w).setCell _ _ (.inl (.inl rfl))⟩;rw[e];refine⟨⟨bs,HS.out.setCount (bs.length*8),HX.out,by omega,by omega⟩,?_⟩;exact Nat.lt_of_lt_of_le HW.out (Nat.pow_le_pow_right (by omega) (by omega))
theorem Jy{k:IntKind}{a b:Int}(h:a=b):Ending.returned (.int k a)=.returned (.int k b):=by rw[h]
theorem pM(p c:Nat)(s:Value)(bs:List Nat)(w:World)(h:St w p s bs c)(hc:c≤8*bs.length)(ag:bs.length≤100000000000):
  Calls Tryz.prog 149 #[.pointer (some ⟨p,0,none⟩)] w λe w'=>e=.returned (.int .i64 ((8*bs.length-c:Nat):Int))/\∃m,w'=w.drewN m:=by
 obtain⟨ao,cap,hv,_⟩:=h.row.shape;have og:=h.cb;have om:=h.cc;rw[hv]at og;clear h hv;go_enter Tryz.func149,Tryz.ntmps149;go_wp2;go_quiet (fail);go_wp2;go_ret;exact⟨Jy (by omega),_,rfl⟩
theorem cW(p c:Nat)(s:Value)(bs:List Nat)(w:World)(h:St w p s bs c):
  Calls Tryz.prog 124 #[.pointer (some ⟨p,0,none⟩)] w λe w'=>e=.returned (.int .i64 (c:Nat))/\w'=w:=by
 have om:=h.cc;clear h;go_enter Tryz.func124,Tryz.ntmps124;go_wp2;go_ret;exact⟨rfl,rfl⟩
theorem Nl(p c:Nat)(n:Int)(s:Value)(bs:List Nat)(w:World)(h:St w p s bs c)(hn:n<0∨(c:Int)<n):
  Calls Tryz.prog 195 #[.pointer (some ⟨p,0,none⟩),.int .i64 n] w λe w'=>e=.returned (.int .i64 1)/\w'=w:=by
 have om:=h.cc;clear h;by_cases h0:n<0
 ·clear hn;go_enter Tryz.func195,Tryz.ntmps195;go_wp2;go_ret;exact⟨rfl,rfl⟩
 ·have h1:(c:Int)<n:=(by omega);clear hn;go_enter Tryz.func195,Tryz.ntmps195;go_wp2;go_ret;exact⟨rfl,rfl⟩
theorem n8(p c n:Nat)(s:Value)(bs:List Nat)(w:World)(h:St w p s bs c)(hn:n≤c)(hc:c≤1000000000000):
  Calls Tryz.prog 195 #[.pointer (some ⟨p,0,none⟩),.int .i64 (n:Nat)] w λe w'=>e=.returned (.int .i64 0)/\St w' p s bs (c-n)/\Kept (·=p) w w':=by
 have om:=h.cc;have Na:=h.fc;have HS:Hid (St w p s bs c):=h;clear h;go_enter Tryz.func195,Tryz.ntmps195;go_wp2;go_ret;refine⟨rfl,?_,(Kept.refl _ w).setCell _ _ (.inl rfl)⟩;have:=HS.out.setCount (c-n);rw[show((c-n:Nat):Int)=(c:Int)-(n:Int)by omega]at this;exact this
theorem lW(p c:Nat)(s:Value)(bs:List Nat)(w:World)(h:St w p s bs c)(hc:c≤1000000000000):
  Calls Tryz.prog 127 #[.pointer (some ⟨p,0,none⟩)] w λe w'=>e=.returned (.int .i64 0)/\St w' p s bs ((c+7) / 8*8)/\Kept (·=p) w w':=by
 have om:=h.cc;have Na:=h.fc;have HS:Hid (St w p s bs c):=h;clear h;go_enter Tryz.func127,Tryz.ntmps127;go_wp2;go_ret;refine⟨rfl,?_,(Kept.refl _ w).setCell _ _ (.inl rfl)⟩;have:=HS.out.setCount ((c+7) / 8*8);rw[show(((c+7) / 8*8:Nat):Int)=((c:Int)+8-1) / 8*8 by omega]at this;exact this
theorem qp(p c n:Nat)(s:Value)(bs:List Nat)(w:World)(h:St w p s bs c)(hc:c≤8*bs.length)(ag:bs.length≤100000000000)(hn:n≤32)(hm:8*bs.length<c+n):
  Calls Tryz.prog 120 #[.pointer (some ⟨p,0,none⟩),.int .i64 (n:Nat)] w λe w'=>e=.returned (.tuple #[.int .u32 0,.int .i64 10])/\∃m,w'=w.drewN m:=by
 have hd:decide (0<=(n:Int)/\(n:Int)<=32)=true:=by simp;omega
 have hh:((8*bs.length-c:Nat):Int)<(n:Int):=by omega
 have HC:=pM p c s bs w h hc ag;obtain⟨q,hq⟩:∃q,q=8*bs.length-c:=⟨_,rfl⟩
 rw[<-hq]at HC hh;clear h hc ag hm hq;go_enter Tryz.func120,Tryz.ntmps120;go_wp2_with (first | (go_at_call 103;refine(qx _ _).mono ?_;rintro e w' ⟨rfl,rfl⟩;rw[hd]) | (go_at_call 149;refine HC.mono ?_;rintro e w' ⟨rfl,mq,rfl⟩));go_ret2;exact⟨rfl,_,rfl⟩
theorem f8(p c n:Nat)(s:Value)(bs:List Nat)(w:World)(h:St w p s bs c)(ag:bs.length≤100000000000)(hn:n≤32)(hm:c+n≤8*bs.length):
  Calls Tryz.prog 120 #[.pointer (some ⟨p,0,none⟩),.int .i64 (n:Nat)] w λe w'=>e=.returned (.tuple #[.int .u32 (aN bs / 2 ^ c % 2 ^ n:Nat),.int .i64 0]) /\
   St w' p s bs (c+n)/\Kept (·=p) w w':=by
 have hd:decide (0<=(n:Int)/\(n:Int)<=32)=true:=by simp;omega
 have hh:¬((8*bs.length-c:Nat):Int)<(n:Int):=by omega
 have HC:=pM p c s bs w h (by omega) ag;have HD:=λm=>I7 (w.drewN m) p s bs c n (h.drewN m) hn hm ag
 obtain⟨q,hq⟩:∃q,q=8*bs.length-c:=⟨_,rfl⟩
 rw[<-hq]at HC hh;clear h ag hm hq;go_enter Tryz.func120,Tryz.ntmps120;go_wp2_with (first | (go_at_call 103;refine(qx _ _).mono ?_;rintro e w' ⟨rfl,rfl⟩;rw[hd]) | (go_at_call 149;refine HC.mono ?_;rintro e w' ⟨rfl,mq,rfl⟩) | (go_at_call 150;refine(HD mq).mono ?_;rintro e w' ⟨rfl,OP,hk'⟩));go_ret2;exact⟨rfl,OP,⟨hk'.os,hk'.tape,hk'.output,hk'.size,hk'.block⟩⟩
theorem ru(v:Value)(I:Nat→Prop)(cs:List Nat)(w:World)(h:Src w I v cs)(ag:cs.length≤100000000000)(hb:∀b∈cs,b<256):
  Calls Tryz.prog 119 #[v] w λe w'=>∃p s,e=.returned (.pointer (some ⟨p,0,none⟩))/\St w' p s cs 0/\Kept (λ_=>False) w w'/\(∀k,Fp p s k->w.heap.size<=k):=by
 obtain⟨ao,cap,rfl,hsrc⟩:=id h;have HS:Hid (Src w I (.slice ao cs.length cap) cs):=h;clear h hsrc;go_enter Tryz.func119,Tryz.ntmps119;go_wp2_with (first | (at_make;refine ii _ rfl _ _ rfl _ _ _ _ cs.length rfl rfl rfl rfl (by omega) ?_;intro w1 hr1 rM hs1;have HR:Hid (Row w1 (.slice (some ⟨w.heap.size,0,none⟩) cs.length cs.length) (List.replicate cs.length 0)):=hr1;have HK:Hid (Kept (λ_=>False) w w1):=(Kept.refl _ w).grown rM (by simp);clear hr1 rM) | (with_reducible refine pN ?_;refine ev _ rfl (.tmp 12) (.tmp 13) rfl w.heap.size cs.length cs.length ao cs.length cap (List.replicate cs.length 0) cs I rfl rfl (World.ownsRow.alloc HR.out _) (HS.out.kept (HK.out.alloc _) (λ_ _ _ h=>h)) (by simp) ?_;intro w2 hr2 td hs2));go_ret;have hk2:Kept (·=w.heap.size) (w1.alloc (.cells #[.slice (some ⟨w.heap.size,0,none⟩) cs.length cs.length,.int .i64 0] 223)) w2:=(Kept.refl _ _).grown td (λk e=>.inl (by simpa using e.symm));have bh:¬w1.heap.size=w.heap.size:=by omega
 refine⟨w1.heap.size,.slice (some ⟨w.heap.size,0,none⟩) cs.length cs.length,rfl,⟨hk2.cell (by simp) bh,hk2.cell (by simp) bh,(hk2.frozen (by simp) bh).trans (by simp),(hk2.frozen (by simp) bh).trans (by simp),?_,by simp[Value.ownBlock];omega,hb⟩,?_,?_⟩
 ·simpa using hr2
 ·exact Kept.trans (H:=λ_=>False) (HK.out.alloc _) hk2 (λ_ _ h=>h) (λx hx e=>by omega)
 ·intro k hk;rcases hk with rfl | hk
  ·exact HK.out.size
  ·simp[Value.ownBlock]at hk;omega
theorem zt(p X c:Nat)(s:Value)(w:World)(h:Wr w p s X c)(hc:c≤100000000000):
  Calls Tryz.prog 80 #[.pointer (some ⟨p,0,none⟩)] w λe w'=>∃g bs,e=.returned (.slice (some ⟨g,0,none⟩) bs.length bs.length)/\Row w' (.slice (some ⟨g,0,none⟩) bs.length bs.length) bs/\(∀b∈bs,b<256) /\
   aN bs=X/\bs.length=(c+7) / 8/\Kept (λ_=>False) w w'/\w.heap.size<=g:=by
 obtain⟨bs,hst,hX,lB,yp⟩:=h.ex;obtain⟨ao,cap,hv,_⟩:=hst.row.shape;have og:=hst.cb;have O6:∀w1,Kept (λ_=>False) w w1->w1.cell? ⟨p,0,none⟩=some (.slice ao bs.length cap):=λw1 hk=>hk.cell (by rw[og,hv]) (λh=>h)
 rw[hv]at og;have HS:Hid (Src w (λk=>(Value.slice ao bs.length cap).ownBlock=some k) (.slice ao bs.length cap) bs):=by have:=Src.ofRow hst.row;rw[hv]at this;exact this
 have HB:Hid (∀b∈bs,b<256):=hst.byte;have HX:Hid (aN bs=X):=hX;have ag:bs.length<=100000000000:=by omega
 have HL:Hid (bs.length=(c+7) / 8):=by show _=_;omega
 clear h hst hX lB yp hc hv;go_enter Tryz.func80,Tryz.ntmps80;go_wp2_with (first | (at_make;refine ii _ rfl _ _ rfl _ _ _ _ bs.length rfl rfl rfl rfl (by omega) ?_;intro w1 hr1 rM hs1;have HR:Hid (Row w1 (.slice (some ⟨w.heap.size,0,none⟩) bs.length bs.length) (List.replicate bs.length 0)):=hr1;have HK:Hid (Kept (λ_=>False) w w1):=(Kept.refl _ w).grown rM (by simp);have VN:=O6 w1 HK.out;clear hr1 rM) | (with_reducible refine pN ?_;refine ev _ rfl (.tmp 12) (.tmp 16) rfl w.heap.size bs.length bs.length ao bs.length cap (List.replicate bs.length 0) bs _ rfl rfl HR.out (HS.out.kept HK.out (λ_ _ _ h=>h)) (by simp) ?_;intro w2 hr2 td hs2));go_ret;refine⟨w.heap.size,bs,rfl,by simpa using hr2,HB.out,HX.out,HL.out,?_,Nat.le_refl _⟩;refine HK.out.grown td (λk e=>.inr ?_);simp at e;omega
theorem rt(va vb:Value)(I J:Nat→Prop)(xs ys:List Nat)(w:World)(ha:Src w I va xs)(hb:Src w J vb ys)(hx:xs.length≤1000000000000)(hy:ys.length≤1000000000000):
  Calls Tryz.prog 9 #[va,vb] w λe w'=>e=.returned (.bool (decide (xs=ys)))/\∃m,w'=w.drewN m:=by
 obtain⟨ao,ca,rfl,B6⟩:=id ha;obtain⟨bo,cb,rfl,Qs⟩:=id hb;clear ha hb;by_cases hl:xs.length=ys.length
 ·have HL:Hid (xs.length=ys.length):=hl;have hd:((xs.length:Int) != (ys.length:Int))=false:=(by simp[hl]);clear hl;go_enter Tryz.func9,Tryz.ntmps9;go_wp2;clear hd;go_loopg [5] xs.length (λk i wr=>∃j:Nat,j<=xs.length/\xs.length-j<=k/\i=.int .i64 j/\(∃m,wr=w.drewN m)/\xs.take j=ys.take j)
  case atStart=>exact⟨0,by omega,by omega,rfl,⟨0,rfl⟩,by simp⟩
  case round=>
   obtain⟨j,hj,hjk,rfl,⟨m,rfl⟩,ht⟩:=hrel;have HT:Hid (xs.take j=ys.take j):=ht;clear ht;by_cases hlt:j<xs.length
   ·have qY:j<ys.length:=(by have:=HL.out;omega);obtain⟨a,oa,rfl,_,KU⟩:=B6 (by intro e;rw[e]at hlt;simp at hlt);obtain⟨b,ob,rfl,_,og⟩:=Qs (by intro e;rw[e]at qY;simp at qY);have eH:=KU j hlt;have cm:=og j qY;obtain⟨x,fO⟩:∃x,x=xs[j]:=⟨_,rfl⟩
    obtain⟨y,ID⟩:∃y,y=ys[j]:=⟨_,rfl⟩
    rw[<-fO]at eH;rw[<-ID]at cm;have HX:Hid (x=xs[j]):=fO;have HY:Hid (y=ys[j]):=ID;clear KU og B6 Qs fO ID;by_cases he:x=y
    ·have hd:((x:Int) != (y:Int))=false:=(by simp[he]);have HE:Hid (x=y):=he;clear he;go_wp2;go_quiet (fail);go_wp2;go_roundg (gk-1)
     case measure=>omega
     case rel=>exact⟨j+1,by omega,by omega,by go_num,⟨_,rfl⟩,by rw[List.take_succ_eq_append_getElem hlt,List.take_succ_eq_append_getElem qY,HT.out,<-HX.out,<-HY.out,HE.out]⟩
    ·have hd:((x:Int) != (y:Int))=true:=(by simp;omega);go_wp2;go_quiet (fail);go_wp2;go_ret;refine⟨?_,_,D0 _ _ _⟩;have:¬xs=ys:=(by intro e;subst e;exact he (HX.out.trans HY.out.symm));simp[this]
   ·clear B6 Qs;go_wp2;go_ret;refine⟨?_,_,rfl⟩;have h1:=HT.out;have h2:=HL.out;rw[List.take_of_length_le (by omega),List.take_of_length_le (by omega)]at h1;simp[h1]
 ·have hd:((xs.length:Int) != (ys.length:Int))=true:=(by simp;omega);have HL:Hid (¬xs.length=ys.length):=hl;clear hl;go_enter Tryz.func9,Tryz.ntmps9;go_wp2;go_ret;have:¬xs=ys:=(by intro e;exact HL.out (by rw[e]));exact⟨by simp[this],0,rfl⟩
end Go.Proofs.YtllcnlnbpikhdaaGreatDoor
