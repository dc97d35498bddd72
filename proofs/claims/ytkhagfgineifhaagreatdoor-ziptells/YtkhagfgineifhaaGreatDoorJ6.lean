import Derived.Laws.BitsAllLaws
import Derived.Test.YtkhagfgineifhaaGreatDoorJ3
set_option maxHeartbeats 1000000
namespace Go.Proofs.YtkhagfgineifhaaGreatDoor
open Go.RowKit
theorem JS(u:Nat)(h:u<4294967296):bits .and .u32 (u:Int) 1=((u % 2:Nat):Int):=by have e:=u32_and_nat u 1 h (by omega);rw[Nat.and_one_is_mod]at e;exact e
theorem GJ(n:Nat)(h:n<4294967296):bits .xor .u32 (n:Int) 3988292384=((n ^^^ 3988292384:Nat):Int):=u32_xor_nat n 3988292384 h (by decide)
theorem Ag(n:Nat)(h:n<4294967296):bits .xor .u32 (n:Int) 0=(n:Int):=by have e:=u32_xor_nat n 0 h (by decide);rw[Nat.xor_zero]at e;exact e
theorem vP(u:Nat)(h:u % 2=1):jN u=u / 2 ^^^ 3988292384:=by unfold jN;rw[h,Nat.one_mul]
theorem uL(u:Nat)(h:u % 2=0):jN u=u / 2:=by unfold jN;rw[h,Nat.zero_mul,Nat.xor_zero]
theorem GY(u:Nat)(h:u<4294967296)(h1:u % 2=1):bits .xor .u32 ((u:Int) / 2) 3988292384=((jN u:Nat):Int):=by
 have e2:(u:Int) / 2=((u / 2:Nat):Int):=by omega
 rw[e2,vP u h1];exact GJ (u / 2) (by omega)
theorem Fj(u:Nat)(h:u<4294967296):bits .xor .u32 ((u:Int) / 2) (bits .and .u32 (u:Int) 1*3988292384 % 4294967296)=((jN u:Nat):Int):=by
 rw[JS u h];rcases Nat.mod_two_eq_zero_or_one u with h1 | h1
 ·have e3:((u % 2:Nat):Int)*3988292384 % 4294967296=0:=(by rw[h1];rfl);have e2:(u:Int) / 2=((u / 2:Nat):Int):=(by omega);rw[e3,e2,uL u h1];exact Ag (u / 2) (by omega)
 ·have e3:((u % 2:Nat):Int)*3988292384 % 4294967296=3988292384:=(by rw[h1];rfl);rw[e3];exact GY u h h1
theorem BB(u:Nat)(h:u<4294967296):bits .xor .u32 4294967295 (u:Int)=((iT u:Nat):Int):=by
 have e:=u32_xor_nat 4294967295 u (by omega) h;have e2:4294967295 ^^^ u=iT u:=by have hb:(BitVec.allOnes 32 ^^^ BitVec.ofNat 32 u).toNat=(~~~ BitVec.ofNat 32 u).toNat:=(by rw[BitVec.allOnes_xor]);rw[BitVec.toNat_xor,BitVec.toNat_not,BitVec.toNat_allOnes,BitVec.toNat_ofNat,Nat.mod_eq_of_lt (show u<2 ^ 32 by omega)]at hb;exact hb
 rw[e2]at e;exact e
theorem yk(w:World)(r:Nat)(hr:r<4294967296):
  Calls Tryz.prog 85 #[.int .u32 (r:Nat)] w λe w'=>e=.returned (.int .u32 (dV r:Nat))/\w'=w:=by
 go_enter Tryz.func85,Tryz.ntmps85;go_wp2;go_loopg [0,4] 8 (λk x z wr=>∃i u:Nat,i<=8/\8-i<=k/\z=.int .i64 (i:Nat)/\x=.int .u32 (u:Nat)/\u=iZ i r/\wr=w)
 case atStart=>exact⟨0,r,by omega,by omega,rfl,rfl,rfl,rfl⟩
 case round=>
  obtain⟨i,u,hi,Ik,rfl,rfl,hu,rfl⟩:=hrel;have HU:Hid (u=iZ i r):=hu;have yB:u<4294967296:=(by rw[hu];exact mD hr i);clear hu;by_cases hlt:i<8
  ·go_wp2
   go_roundg (gk-1)
   case measure=>omega
   case rel=>
    exact⟨i+1,jN u,by omega,by omega,by go_num,by rw[Fj u yB],by rw[HU.out];rfl,rfl⟩
  ·have yK:i=8:=(by omega);subst yK;go_wp2;go_ret;rw[HU.out];exact⟨rfl,rfl⟩
theorem C4(w:World)(v:Value)(I:Nat→Prop)(cs:List Nat)(hsrc:Src w I v cs)(hb:∀b∈cs,b<256)(s:Nat)(hs:s<4294967296)(ag:cs.length≤100000000):
  Calls Tryz.prog 56 #[.int .u32 (s:Nat),v] w λe w'=>e=.returned (.int .u32 (more s cs:Nat))/\w'=w:=by
 obtain⟨ao,cap,rfl,Jm⟩:=id hsrc;have HB:Hid (∀b∈cs,b<256):=hb;have HSA:Hid (cs≠[]->∃b o,ao=some ⟨b,o,none⟩/\I b/\∀j (_:j<cs.length),w.cell? ⟨b,o+j,none⟩=some (.int .u8 (cs[j]:Nat))):=Jm;clear hsrc Jm hb;go_enter Tryz.func56,Tryz.ntmps56;go_wp2_with fail;go_loopg [5,12] cs.length (λk x z wr=>∃i u:Nat,i<=cs.length/\cs.length-i<=k/\z=.int .i64 (i:Nat)/\x=.int .u32 (u:Nat)/\u=nO (iT s) (cs.take i)/\wr=w)
 case atStart=>exact⟨0,iT s,by omega,by omega,rfl,by rw[<-BB s hs];first | rfl | simp,rfl,rfl⟩
 case round=>
  obtain⟨i,u,hi,Ik,rfl,rfl,hu,rfl⟩:=hrel;have HU:Hid (u=nO (iT s) (cs.take i)):=hu;have yB:u<4294967296:=(by rw[hu];exact rB (nt _) _ (λb hb=>HB.out b (List.mem_of_mem_take hb)));clear hu;by_cases hlt:i<cs.length
  ·obtain⟨b,o,rfl,_,pJ⟩:=HSA.out (by intro e;rw[e]at hlt;simp at hlt);have d1:=pJ i hlt;obtain⟨x,hx⟩:∃x,x=cs[i]:=⟨_,rfl⟩
   have gh:x<256:=(by rw[hx];exact HB.out _ (List.getElem_mem _));have HX:Hid (x=cs[i]):=hx;have HC:=λw=>yk w (u ^^^ x) (kd yB (by omega))
   have Y4:bits .xor .u32 (u:Int) (x:Int)=((u ^^^ x:Nat):Int):=u32_xor_nat u x yB (by omega);rw[<-hx]at d1;clear pJ hx HSA;go_wp2_with fail;refine(HC _).mono ?_;rintro e w' ⟨rfl,rfl⟩;go_wp2_with fail;go_roundg (gk-1)
   case measure=>omega
   case rel=>
    refine⟨i+1,dV (u ^^^ x),by omega,by omega,by go_num,rfl,?_,rfl⟩;rw[List.take_succ_eq_append_getElem hlt,wM,<-HU.out,<-HX.out]
  ·have yK:i=cs.length:=(by omega);subst yK;go_wp2_with fail;go_ret;have h1:=HU.out;rw[List.take_of_length_le (Nat.le_refl _)]at h1;refine⟨?_,rfl⟩;have h2:=BB u yB;unfold more;rw[<-h1,<-h2]
   first | rfl | simp
theorem jb(w:World)(v:Value)(I:Nat→Prop)(cs:List Nat)(hsrc:Src w I v cs)(hb:∀b∈cs,b<256)(ag:cs.length≤100000000):
  Calls Tryz.prog 35 #[v] w λe w'=>e=.returned (.int .u32 (more 0 cs:Nat))/\w'=w:=by
 have HC:=C4 w v I cs hsrc hb 0 (by omega) ag;go_enter Tryz.func35,Tryz.ntmps35;go_wp2_with fail;refine HC.mono ?_;rintro e w' ⟨rfl,rfl⟩;go_wp2_with fail;go_ret;exact⟨rfl,rfl⟩
theorem FA(V b u k got:Nat)(hV:V<2 ^ got)(hb:b<256)(hk:k≤8)(hg:got+k≤32):
  bits .or .u32 (V:Int) (bits .and .u32 ((b:Int) % 4294967296 / 2 ^ u) ((2 ^ k-1) % 4294967296)*2 ^ got % 4294967296)=((V+2 ^ got*(b / 2 ^ u % 2 ^ k):Nat):Int):=by
 have hk2:2 ^ k<=2 ^ 8:=Nat.pow_le_pow_right (by omega) hk;have hk0:0<2 ^ k:=Nat.two_pow_pos k;have e1:((b:Int) % 4294967296 / 2 ^ u)=((b / 2 ^ u:Nat):Int):=by rw[show((b:Int) % 4294967296)=(b:Int)by omega];simp
 have e2:(((2:Int) ^ k-1) % 4294967296)=((2 ^ k-1:Nat):Int):=by have:((2:Int) ^ k)=((2 ^ k:Nat):Int):=(by simp);rw[this];omega
 have h1:b / 2 ^ u<4294967296:=Nat.lt_of_le_of_lt (Nat.div_le_self _ _) (by omega);have h2:2 ^ k-1<4294967296:=by omega
 rw[e1,e2,u32_and_nat _ _ h1 h2,ye];have hm:b / 2 ^ u % 2 ^ k<2 ^ k:=Nat.mod_lt _ hk0;have hlt:b / 2 ^ u % 2 ^ k*2 ^ got<4294967296:=by have h3:b / 2 ^ u % 2 ^ k*2 ^ got<2 ^ k*2 ^ got:=Nat.mul_lt_mul_of_pos_right hm (Nat.two_pow_pos _);have h4:2 ^ k*2 ^ got<=2 ^ 32:=(by rw[<-Nat.pow_add];exact Nat.pow_le_pow_right (by omega) (by omega));omega
 have e3:(((b / 2 ^ u % 2 ^ k:Nat):Int)*2 ^ got % 4294967296)=((b / 2 ^ u % 2 ^ k*2 ^ got:Nat):Int):=by have:((2:Int) ^ got)=((2 ^ got:Nat):Int):=(by simp);rw[this,<-Int.natCast_mul];omega
 have Sk:V<4294967296:=by have:2 ^ got<=2 ^ 32:=Nat.pow_le_pow_right (by omega) (by omega);omega
 rw[e3,u32_or_nat _ _ Sk hlt,Nat.mul_comm,Gs _ _ _ hV]
theorem Ce{w wr:World}{p:Nat}{s:Value}{bs:List Nat}{c n got k gk nq V b:Nat}(hs:St wr p s bs (c+got))(hkp:Kept (·=p) w wr)(hlt:(c+got) / 8<bs.length)(hb:b=bs[(c+got) / 8])(hV:V=aO bs / 2 ^ c % 2 ^ got)
  (hk:(c+got) % 8+k<=8) (Rr:got+k<=n) (hn:n<=32) (oY:n-(got+k)<=gk) {M G C:Int} (hM:M=bits .or .u32 (V:Int) (bits .and .u32 ((b:Int) % 4294967296 / 2 ^ ((c+got) % 8)) ((2 ^ k-1) % 4294967296)*2 ^ got % 4294967296))
  (hG:G=((got+k:Nat):Int)) (hC:C=((c+(got+k):Nat):Int)):
  ∃got':Nat,got'<=n/\n-got'<=gk/\Value.int .u32 M=.int .u32 (aO bs / 2 ^ c % 2 ^ got':Nat)/\Value.int .i64 G=.int .i64 (got':Nat)/\St ((wr.drewN nq).setCell ⟨p,1,none⟩ (.int .i64 C)) p s bs (c+got')/\Kept (·=p) w ((wr.drewN nq).setCell ⟨p,1,none⟩ (.int .i64 C)):=by
 have RT:b<256:=by rw[hb];exact hs.byte _ (List.getElem_mem _)
 have SH:V<2 ^ got:=by rw[hV];exact Nat.mod_lt _ (Nat.two_pow_pos _)
 have e:=G9 bs hs.byte c got k hk hlt;subst hG hC;refine⟨got+k,Rr,oY,?_,rfl,(hs.drewN nq).setCount _,(hkp.drewN nq).setCell _ _ (.inl rfl)⟩;rw[hM,FA V b _ k got SH RT (by omega) (by omega),<-e,hb,hV]
theorem Kl(w:World)(p:Nat)(s:Value)(bs:List Nat)(c n:Nat)(hst:St w p s bs c)(hn:n≤32)(hc:c+n≤8*bs.length)(ag:bs.length≤100000000000):
  Calls Tryz.prog 161 #[.pointer (some ⟨p,0,none⟩),.int .i64 (n:Nat)] w λe w'=>e=.returned (.int .u32 (aO bs / 2 ^ c % 2 ^ n:Nat)) /\
   St w' p s bs (c+n)/\Kept (·=p) w w':=by
 go_enter Tryz.func161,Tryz.ntmps161;go_wp2;go_step3;go_wp2;go_step3;go_wp2;go_loopg [5,6] n (λk x y wr=>∃got:Nat,got<=n/\n-got<=k/\x=.int .u32 (aO bs / 2 ^ c % 2 ^ got:Nat)/\y=.int .i64 (got:Nat)/\St wr p s bs (c+got)/\Kept (·=p) w wr)
 case atStart=>exact⟨0,by omega,by omega,by simp[Nat.mod_one],rfl,hst,Kept.refl _ _⟩
 case round=>
  obtain⟨got,pL,nN,rfl,rfl,hs,hk⟩:=hrel;have HS:Hid (St wr p s bs (c+got)):=hs;have HK:Hid (Kept (·=p) w wr):=hk;by_cases h0:got=n
  ·subst h0;clear hst hs;go_wp2;rw[Exit.noGoto_ret];go_ret;exact⟨rfl,HS.out,HK.out⟩
  ·obtain⟨ao,cap,hv,hg⟩:=hs.row.shape;have hlt:(c+got) / 8<bs.length:=(by omega);obtain⟨g,Lk⟩:=hg (by intro e;rw[e]at hlt;simp at hlt);subst Lk;have bZ:wr.cell? ⟨g,(c+got) / 8,none⟩=some (.int .u8 (bs[(c+got) / 8]:Nat)):=by
    have hr:=hs.row;rw[hv]at hr;exact Row.cell hr _ hlt
   have pJ:=hs.cb;have mv:=hs.cc;have NK:=hs.fc;rw[hv]at pJ;obtain⟨u,hu⟩:∃u,u=(c+got) % 8:=⟨_,rfl⟩
   obtain⟨b,hb⟩:∃b,b=bs[(c+got) / 8]:=⟨_,rfl⟩
   rw[<-hb]at bZ;obtain⟨V,hV⟩:∃V,V=aO bs / 2 ^ c % 2 ^ got:=⟨_,rfl⟩
   rw[<-hV];have HB:Hid (b=bs[(c+got) / 8]):=hb;have HU:Hid (V=aO bs / 2 ^ c % 2 ^ got):=hV;clear hst hs hk hv hg hu hb hV;by_cases hp:8-(c+got) % 8<=n-got
   ·go_wp2
    go_quiet (fail)
    go_wp2
    go_roundg (gk-1)
    case measure=>omega
    case rel=>
     exact Ce (k:=8-(c+got) % 8) HS.out HK.out hlt HB.out HU.out (by omega) (by omega) hn (by omega) rfl (by omega) (by omega)
   ·go_wp2
    go_quiet (fail)
    go_wp2
    go_roundg (gk-1)
    case measure=>omega
    case rel=>
     exact Ce (k:=n-got) HS.out HK.out hlt HB.out HU.out (by omega) (by omega) hn (by omega) rfl (by omega) (by omega)
structure Lays(w0 w:World)(p:Nat)(v0:Value)(X T:Nat)(v n:Nat)(s:Value)(bs:List Nat)(c:Nat):Prop where
 st:St w p s bs c
 kept:Kept (Fp p v0) w0 w
 own:s.ownBlock=v0.ownBlock\/∀k,s.ownBlock=some k->w0.heap.size<=k
 sum:aO bs+v*2 ^ c=X
 cnt:c+n=T
 lo:c<=8*bs.length
 hi:8*bs.length<=c+8
 hn:8*bs.length=c+8->0<n
 hv:v<2 ^ n
 hx:aO bs<2 ^ c
theorem Gw{w0 wr w1:World}{p:Nat}{v0 s v':Value}{X T v n c nq:Nat}{bs:List Nat}(h:Lays w0 wr p v0 X T v n s bs c)(h8:8*bs.length=c)(h0:0<n){o:Obj}
  (hrow:Row w1 v' (bs++[0])) (hg:((wr.drewN nq).alloc o).grownBy w1 s.ownBlock)
  (iO:v'.ownBlock=s.ownBlock\/v'.ownBlock=some (((wr.drewN nq).alloc o).heap.size)):
  Lays w0 (w1.setCell ⟨p,0,none⟩ v') p v0 X T v n v' (bs++[0]) c:=by
 have hk1:Kept (λk=>s.ownBlock=some k) wr w1:=(((Kept.refl _ wr).drewN nq).alloc o).grown hg (λk e=>.inl e);have dA:w0.heap.size<=wr.heap.size:=h.kept.size;have hlt:=h.st.lt;have hv:v'.ownBlock=s.ownBlock\/∀k,v'.ownBlock=some k->wr.heap.size<=k:=by
  rcases iO with e | e
  ·exact .inl e
  ·refine .inr (λk e'=>?_);rw[e]at e';simp at e';omega
 have bm:v'.ownBlock≠some p:=by
  rcases hv with e | e
  ·rw[e];exact h.st.ne
  ·intro e';have:=e p e';omega
 refine⟨h.st.setBytes hk1 hrow bm ?_,?_,?_,?_,h.cnt,by simp;omega,by simp;omega,λ_=>h0,h.hv,?_⟩
 ·intro b hb;rcases List.mem_append.1 hb with hb | hb
  ·exact h.st.byte b hb
  ·simp at hb;omega
 ·refine(Kept.trans (H:=Fp p v0) h.kept hk1 (λ_ _ e=>e) ?_).setCell _ _ (.inl (.inl rfl));intro x hx e;rcases h.own with e' | e'
  ·exact .inr (by rw[<-e',e])
  ·have:=e' x e;omega
 ·rcases hv with e | e
  ·rw[e];exact h.own
  ·exact .inr (λk e'=>Nat.le_trans dA (e k e'))
 ·rw[fQ];simpa[aO]using h.sum
 ·rw[fQ];simpa[aO]using h.hx
theorem GP{w0 wr:World}{p:Nat}{v0 s:Value}{X T v c:Nat}{bs:List Nat}(h:Lays w0 wr p v0 X T v 0 s bs c)(nq:Nat):Lays w0 (wr.drewN nq) p v0 X T 0 0 s bs T:=by
 have e:T=c:=by have:=h.cnt;omega
 have hv:v=0:=by have:=h.hv;simp at this;exact this
 subst e hv;exact⟨h.st.drewN nq,h.kept.drewN nq,h.own,h.sum,rfl,h.lo,h.hi,h.hn,by simp,h.hx⟩
theorem GM{w0 wr:World}{p:Nat}{v0:Value}{X T v n c g cap b free:Nat}{bs:List Nat}(h:Lays w0 wr p v0 X T v n (.slice (some ⟨g,0,none⟩) (bs.length+1) cap) (bs++[b]) c)
  (hf:c+free=8*(bs.length+1)) (NY:0<free) (hn:0<n) (nq:Nat):
  Lays w0 (((wr.drewN nq).setCell ⟨g,bs.length,none⟩ (.int .u8 (b ||| (v*2 ^ (8-free) % 256):Nat))).setCell ⟨p,1,none⟩ (.int .i64 (c+min free n:Nat))) p v0 X T (v / 2 ^ min free n) (n-min free n)
   (.slice (some ⟨g,0,none⟩) (bs.length+1) cap) (bs++[b ||| (v*2 ^ (8-free) % 256)]) (c+min free n):=by
 have RA:free<=8:=by have:=h.hi;simp at this;omega
 have hb:=Kn bs b c free (by omega) RA h.hx;have hx:b ||| (v*2 ^ (8-free) % 256)=b+2 ^ (8-free)*(v % 2 ^ free):=by rw[Gc v free RA];exact Gs _ _ _ hb
 have UZ:b ||| (v*2 ^ (8-free) % 256)<256:=by have h1:b<2 ^ 8:=h.st.byte b (by simp);have h2:v*2 ^ (8-free) % 256<2 ^ 8:=Nat.mod_lt _ (by decide);exact Nat.or_lt_two_pow h1 h2
 have PR:Row wr (.slice (some ⟨g,0,none⟩) (bs.length+1) cap) (bs++[b]):=h.st.row;have hst:=World.ownsRow.stored (n:=bs.length+1) (by simpa[Row]using PR) bs.length (.int .u8 (b ||| (v*2 ^ (8-free) % 256):Nat));have Po:Row (wr.setCell ⟨g,bs.length,none⟩ (.int .u8 (b ||| (v*2 ^ (8-free) % 256):Nat))) (.slice (some ⟨g,0,none⟩) (bs.length+1) cap) (bs++[b ||| (v*2 ^ (8-free) % 256)]):=by have:=hst.1;rw[List.set_append_right _ _ (by simp)]at this;simpa[Row,be]using this
 have Pa:g≠p:=by have:=h.st.ne;simpa[Value.ownBlock]using this
 have hk1:Kept (·=g) wr (wr.setCell ⟨g,bs.length,none⟩ (.int .u8 (b ||| (v*2 ^ (8-free) % 256):Nat))):=(Kept.refl _ wr).setCell _ _ (.inl rfl);have hs1:St (wr.setCell ⟨g,bs.length,none⟩ (.int .u8 (b ||| (v*2 ^ (8-free) % 256):Nat))) p (.slice (some ⟨g,0,none⟩) (bs.length+1) cap) (bs++[b ||| (v*2 ^ (8-free) % 256)]) c:=by
  refine⟨hk1.cell h.st.cb (Ne.symm Pa),hk1.cell h.st.cc (Ne.symm Pa),(hk1.frozen h.st.lt (Ne.symm Pa)).trans h.st.fb,(hk1.frozen h.st.lt (Ne.symm Pa)).trans h.st.fc,Po,h.st.ne,?_⟩;intro y hy;rcases List.mem_append.1 hy with hy | hy
  ·exact h.st.byte y (by simp[hy])
  ·simp at hy;subst hy;exact UZ
 have sj:aO (bs++[b ||| (v*2 ^ (8-free) % 256)])=aO (bs++[b])+2 ^ c*(v % 2 ^ free):=by rw[hx];exact GC bs b c free _ (by omega) RA
 refine⟨(hs1.setCount (c+min free n)).drewN nq,?_,h.own,?_,?_,?_,?_,?_,?_,?_⟩
 ·have hk2:=(Kept.refl (Fp p v0) (wr.setCell ⟨g,bs.length,none⟩ (.int .u8 (b ||| (v*2 ^ (8-free) % 256):Nat)))).setCell ⟨p,1,none⟩ (.int .i64 (c+min free n:Nat)) (.inl (.inl rfl));refine(Kept.trans (H:=Fp p v0) ?_ hk2 (λ_ _ e=>e) (λ_ _ e=>e)).drewN nq;refine Kept.trans (H:=Fp p v0) h.kept hk1 (λ_ _ e=>e) ?_;intro x Ny e;rcases h.own with e' | e'
  ·exact .inr (by rw[<-e',e];rfl)
  ·have:=e' x (by rw[e];rfl);omega
 ·rw[sj,GV _ _ _ _ _ h.hv];exact h.sum
 ·have:=h.cnt;omega
 ·simp;omega
 ·simp;omega
 ·intro e;simp at e;omega
 ·have hv:=h.hv;rw[Nat.div_lt_iff_lt_mul (Nat.two_pow_pos _),<-Nat.pow_add,show n-min free n+min free n=n by omega];exact hv
 ·rw[sj,Nat.pow_add];have h1:=h.hx;have h2:v % 2 ^ free<2 ^ min free n:=by
   by_cases Lm:free<=n
   ·rw[Nat.min_eq_left Lm];exact Nat.mod_lt _ (Nat.two_pow_pos _)
   ·rw[Nat.min_eq_right (by omega)];exact Nat.lt_of_le_of_lt (Nat.mod_le _ _) h.hv
  have h3:2 ^ c*(v % 2 ^ free+1)<=2 ^ c*2 ^ min free n:=Nat.mul_le_mul_left _ h2;rw[Nat.mul_add]at h3;omega
theorem yd{w0 wr:World}{p:Nat}{v0 s:Value}{X T v n c g cap b free m k:Nat}{bs bs1:List Nat}(h:Lays w0 wr p v0 X T v n s bs1 c)(hs:s=.slice (some ⟨g,0,none⟩) bs1.length cap)(hb:bs1=bs++[b]∧m=bs.length)
  (hf:c+free=8*(m+1)) (NY:0<free) (hn:0<n) (nq:Nat) {B V N C:Int} (hB:B=bits .or .u8 (b:Int) ((v:Int)*2 ^ (8-free) % 256)) (hV:V=(v:Int) / 2 ^ min free n) (hN:N=((n-min free n:Nat):Int)) (hC:C=((c+min free n:Nat):Int)) (hk:2*n-1<=k):
  ∃s' bs' c' v' n',Value.int .u32 V=Value.int .u32 (v':Nat)/\Value.int .i64 N=Value.int .i64 (n':Nat)/\(2*n'+if c'=8*bs'.length then 1 else 0)<=k /\
   Lays w0 (((wr.drewN nq).setCell ⟨g,m,none⟩ (.int .u8 B)).setCell ⟨p,1,none⟩ (.int .i64 C)) p v0 X T v' n' s' bs' c':=by
 obtain⟨rfl,rfl⟩:=hb;rw[List.length_append,List.length_singleton]at hs;subst hs;have R:=GM h hf NY hn nq;have RT:b<256:=h.st.byte b (by simp);have e:((v:Int)*2 ^ (8-free) % 256)=((v*2 ^ (8-free) % 256:Nat):Int):=by simp
 rw[e,u8_or_nat b _ RT (Nat.mod_lt _ (by decide))]at hB;subst hB hN hC;refine⟨_,_,_,v / 2 ^ min free n,n-min free n,by rw[hV];simp,rfl,?_,R⟩;split<;>omega
theorem JN(w:World)(p:Nat)(s:Value)(bs:List Nat)(c v n:Nat)(hst:St w p s bs c)(hv:v<2 ^ n)(hn:n≤32)(hc:c≤1000000000000)
  (lO:c<=8*bs.length) (yR:8*bs.length<c+8) (hx:aO bs<2 ^ c):
  Calls Tryz.prog 114 #[.pointer (some ⟨p,0,none⟩),.int .u32 v,.int .i64 n] w λe w'=>e=.returned (.tuple #[]) /\
   ∃s' bs',Lays w w' p s (aO bs+v*2 ^ c) (c+n) 0 0 s' bs' (c+n):=by
 go_enter Tryz.func114,Tryz.ntmps114;go_wp2;go_step3;go_wp2;go_step3;go_wp2;go_loopg [1,2] (2*n+1) (λk x y wr=>∃s' bs' c' v' n',x=.int .u32 (v':Nat)/\y=.int .i64 (n':Nat)/\2*n'+(if c'=8*bs'.length then 1 else 0)<=k/\Lays w wr p s (aO bs+v*2 ^ c) (c+n) v' n' s' bs' c')
 case atStart=>exact⟨s,bs,c,v,n,rfl,rfl,by split<;>omega,hst,Kept.refl _ _,.inl rfl,rfl,rfl,lO,by omega,by omega,hv,hx⟩
 case round=>
  obtain⟨s1,bs1,c1,v1,n1,rfl,rfl,hk,hl⟩:=hrel;have HL:Hid (Lays w wr p s (aO bs+v*2 ^ c) (c+n) v1 n1 s1 bs1 c1):=hl;have mv:=hl.st.cc;have pJ:=hl.st.cb;have Jg:=hl.st.fb;have NK:=hl.st.fc;have Sc:=hl.lo;have RV:=hl.hi;have tN:=hl.cnt;obtain⟨ao,cap,hs,hg⟩:=hl.st.row.shape;have HS:Hid (s1=Value.slice ao bs1.length cap):=hs;have HK:Hid (2*n1+(if c1=8*bs1.length then 1 else 0)<=gk):=hk;rw[hs]at pJ;obtain⟨L,hL⟩:∃L,L=bs1.length:=⟨_,rfl⟩
  rw[<-hL]at pJ Sc RV;have HLL:Hid (L=bs1.length):=hL;clear hk hL hst lO yR hx hv hs hg hl;have WQ:c1+n1<=1000000000032:=(by omega);clear tN;by_cases h0:n1=0
  ·go_wp2
   go_quiet (fail)
   go_wp2
   rw[Exit.noGoto_normal];go_end0;have hl:=HL.out;subst h0;exact⟨rfl,s1,bs1,GP hl nq⟩
  ·by_cases h8:8*L=c1
   ·go_wp2
    go_quiet (fail)
    have hrow:Row (wr.drewN nq) (.slice ao L cap) bs1:=(by have:=HL.out.st.row;rw[HS.out,<-HLL.out]at this;exact this);have HR:Hid (Row ((wr.drewN nq).alloc (.cells #[.int .u8 0] 5)) (.slice ao L cap) bs1):=World.ownsRow.alloc hrow _;have HLn:Hid (bs1.length+[0].length<=1000000000000):=(by have:=HLL.out;show bs1.length+1<=_;omega);clear hrow;go_wp2_with (at_builtin;refine eH _ rfl (.tmp 65) (.tmp 66) rfl (.slice ao L cap) bs1 rfl HR.out ⟨wr.heap.size,0,none⟩ 1 1 [0] rfl rfl (iq _ 0) HLn.out ?_);intro v' w1 hrow mw iO;have hl:=HL.out;have hs:=HS.out;rw[<-HLL.out]at hs;rw[<-hs]at mw iO;have R:=Gw hl (by rw[<-HLL.out];exact h8) (by omega) hrow mw (by simpa using iO);have hk1:Kept (λk=>s1.ownBlock=some k) wr w1:=(((Kept.refl _ wr).drewN nq).alloc _).grown mw (λk e=>.inl e);have Ph:=hk1.cell hl.st.cb hl.st.ne;have VU:=(hk1.frozen (p:=⟨p,0,none⟩) hl.st.lt hl.st.ne).trans hl.st.fb;have hm:2*n1+1<=gk:=(by have:=HK.out;rw[if_pos (by rw[<-HLL.out];omega)]at this;exact this);obtain⟨ao',cap',PL,_⟩:=Row.shape hrow;have RR:Hid (Lays w (w1.setCell ⟨p,0,none⟩ v') p s (aO bs+v*2 ^ c) (c+n) v1 n1 v' (bs1++[0]) c1):=R;have eL:(bs1++[0]).length=bs1.length+1:=(by simp);rw[eL]at PL;rw[PL]at RR ⊢;clear hrow mw iO hl hs R hk1 PL HR eL;go_wp2;go_roundg (2*n1)
    case measure=>omega
    case rel=>exact⟨_,_,c1,v1,n1,rfl,rfl,by rw[if_neg (by rw[List.length_append];have:=HLL.out;simp;omega)];omega,RR.out⟩
   ·obtain⟨bs2,b,hb⟩:∃bs2 b,bs1=bs2++[b]:=by
     have bm:bs1≠[]:=(by intro e;have:=HLL.out;rw[e]at this;simp at this;omega);exact⟨bs1.dropLast,bs1.getLast bm,(List.dropLast_concat_getLast bm).symm⟩
    obtain⟨m,hm⟩:∃m,m=bs2.length:=⟨_,rfl⟩
    have TA:L=m+1:=(by rw[HLL.out,hb,hm];simp);subst TA;have hl:=HL.out;obtain⟨g,Lk,bZ,WK⟩:∃g,ao=some ⟨g,0,none⟩/\wr.cell? ⟨g,m,none⟩=some (.int .u8 (b:Nat))/\wr.frozen? ⟨g,m,none⟩=false:=by
     obtain⟨ao',cap',e1,e2⟩:=hl.st.row.shape;have e3:=HS.out;rw[e1]at e3;injection e3 with e3 e4 e5;obtain⟨g,e6⟩:=e2 (by rw[hb];simp);subst e3 e5 e6;have hr:=hl.st.row;rw[e1]at hr;refine⟨g,rfl,?_,?_⟩
     ·rw[Row.cell hr m (by rw[hb,hm];simp)];simp[hb,hm]
     ·exact World.ownsRow.frozenAt hr m
    subst Lk;have HB:Hid (bs1=bs2++[b]/\m=bs2.length):=⟨hb,hm⟩
    clear hb hm hl;obtain⟨f,hf⟩:∃f,c1+f=8*(m+1):=⟨8*(m+1)-c1,by omega⟩
    have Pa:¬p=g:=(by intro e;have:=HL.out.st.ne;rw[HS.out]at this;exact this (by rw[e];rfl));by_cases Lm:f<=n1
    ·go_wp2
     go_quiet (fail)
     go_wp2_with fail;go_region
     go_wp2
     have hm:2*n1<=gk:=(by have:=HK.out;omega);go_roundg (2*n1-1)
     case measure=>omega
     case rel=>
      have Nw:min f n1=f:=(by omega);exact yd HL.out HS.out HB.out hf (by omega) (by omega) (nq+1) (by rw[show(m+1)*8-c1=f by omega]) (by rw[Nw,show(m+1)*8-c1=f by omega]) (by omega) (by omega) (Nat.le_refl _)
    ·go_wp2
     go_quiet (fail)
     go_wp2_with fail;go_region
     go_wp2
     have hm:2*n1<=gk:=(by have:=HK.out;omega);go_roundg (2*n1-1)
     case measure=>omega
     case rel=>
      have Nw:min f n1=n1:=(by omega);exact yd HL.out HS.out HB.out hf (by omega) (by omega) (nq+1) (by rw[show(m+1)*8-c1=f by omega]) (by rw[Nw]) (by omega) (by omega) (Nat.le_refl _)
structure Wr(w:World)(p:Nat)(s:Value)(X c:Nat):Prop where
 ex:∃bs,St w p s bs c/\aO bs=X/\c<=8*bs.length/\8*bs.length<c+8
 lt:X<2 ^ c
def Rg(w:World)(s s':Value):Prop:=s'.ownBlock=s.ownBlock\/∀k,s'.ownBlock=some k->w.heap.size<=k
theorem Wr.kept{F:Nat->Prop}{w w':World}{p:Nat}{s:Value}{X c:Nat}(h:Wr w p s X c)(hk:Kept F w w')(hn:∀k,Fp p s k->¬F k):Wr w' p s X c:=by obtain⟨bs,h1,h2⟩:=h.ex;exact⟨⟨bs,h1.kept hk hn,h2⟩,h.lt⟩
theorem Wr.fp_lt{w:World}{p:Nat}{s:Value}{X c:Nat}(h:Wr w p s X c){k:Nat}(hk:Fp p s k):k<w.heap.size:=by obtain⟨bs,h1,_⟩:=h.ex;exact h1.fp_lt hk
theorem rR(w:World):
  Calls Tryz.prog 112 #[] w λe w'=>e=.returned (.pointer (some ⟨w.heap.size,0,none⟩))/\Wr w' w.heap.size (.slice none 0 0) 0 0/\Kept (λ_=>False) w w'/\w'.heap.size=w.heap.size+1:=by
 go_enter Tryz.func112,Tryz.ntmps112;go_wp2;go_ret;refine⟨rfl,⟨⟨[],⟨by simp,by simp,by simp,by simp,World.ownsRow_nil _ _ _ _,by simp[Value.ownBlock],by simp⟩,rfl,by simp,by simp⟩,by simp⟩,(Kept.refl _ w).alloc _,by simp⟩
theorem rh(n:Int)(w:World):
  Calls Tryz.prog 113 #[.int .i64 n] w λe w'=>e=.returned (.bool (decide (0<=n/\n<=32)))/\w'=w:=by
 by_cases h0:0<=n
 ·by_cases h1:n<=32
  all_goals
   go_enter Tryz.func113,Tryz.ntmps113;go_wp2;go_ret;exact⟨by simp[h0,h1],rfl⟩
 ·go_enter Tryz.func113,Tryz.ntmps113;go_wp2;go_ret;exact⟨by simp;omega,rfl⟩
theorem Gl(p v n X c:Nat)(s:Value)(w:World)(h:n≤32)(hv:v<2 ^ n)(hw:Wr w p s X c)(hc:c≤1000000000000):
  Calls Tryz.prog 89 #[.pointer (some ⟨p,0,none⟩),.int .u32 (v:Nat),.int .i64 (n:Nat)] w λe w'=>e=.returned (.int .i64 0) /\
   ∃s',Wr w' p s' (X+v*2 ^ c) (c+n)/\Kept (Fp p s) w w'/\Rg w s s':=by
 have hd:decide (0<=(n:Int)/\(n:Int)<=32)=true:=by simp;omega
 have hq:(v:Int) / 2 ^ n=0:=by rw[show((v:Int) / 2 ^ n)=((v / 2 ^ n:Nat):Int)by simp,Nat.div_eq_of_lt hv];rfl
 obtain⟨bs,hst,hX,lO,yR⟩:=hw.ex;have HX:Hid (aO bs=X):=hX;have HW:Hid (X<2 ^ c):=hw.lt;have HC:=JN w p s bs c v n hst hv h hc lO yR (by rw[hX];exact hw.lt);clear hX hw hst lO yR;go_enter Tryz.func89,Tryz.ntmps89;go_wp2_with (first | (go_at_call 113;refine(rh _ _).mono ?_;rintro e w' ⟨rfl,rfl⟩;rw[hd]) | (go_at_call 114;refine HC.mono ?_;rintro e w' ⟨rfl,s',bs',hl⟩));go_ret;refine⟨rfl,s',⟨⟨bs',hl.st,?_,hl.lo,?_⟩,?_⟩,hl.kept,hl.own⟩
 ·have:=hl.sum;rw[HX.out]at this;simpa using this
 ·have:=hl.hi;have:=hl.hn;omega
 ·have h1:=hl.sum;have h2:=hl.hx;rw[HX.out]at h1;simp at h1;omega
theorem zq(p:Nat)(c X:Nat)(s:Value)(w:World)(h:Wr w p s X c)(hc:c≤1000000000000):
  Calls Tryz.prog 88 #[.pointer (some ⟨p,0,none⟩)] w λe w'=>e=.returned (.int .i64 0)/\Wr w' p s X ((c+7) / 8*8)/\Kept (Fp p s) w w':=by
 obtain⟨bs,hst,hX,lO,yR⟩:=h.ex;have NK:=hst.fc;have mv:=hst.cc;have pJ:=hst.cb;have HX:Hid (aO bs=X):=hX;have HW:Hid (X<2 ^ c):=h.lt;have HS:Hid (St w p s bs c):=hst;obtain⟨ao,cap,hs,_⟩:=hst.row.shape;rw[hs]at pJ;have hL:bs.length<=1000000000000:=by omega
 clear h hst hX hs;go_enter Tryz.func88,Tryz.ntmps88;go_wp2;go_ret;have e:(c+7) / 8*8=bs.length*8:=by omega
 refine⟨rfl,?_,(Kept.refl _ w).setCell _ _ (.inl (.inl rfl))⟩;rw[e];refine⟨⟨bs,HS.out.setCount (bs.length*8),HX.out,by omega,by omega⟩,?_⟩;exact Nat.lt_of_lt_of_le HW.out (Nat.pow_le_pow_right (by omega) (by omega))
theorem JI{k:IntKind}{a b:Int}(h:a=b):Ending.returned (.int k a)=.returned (.int k b):=by rw[h]
theorem pZ(p c:Nat)(s:Value)(bs:List Nat)(w:World)(h:St w p s bs c)(hc:c≤8*bs.length)(ag:bs.length≤100000000000):
  Calls Tryz.prog 160 #[.pointer (some ⟨p,0,none⟩)] w λe w'=>e=.returned (.int .i64 ((8*bs.length-c:Nat):Int))/\∃m,w'=w.drewN m:=by
 obtain⟨ao,cap,hv,_⟩:=h.row.shape;have pJ:=h.cb;have mv:=h.cc;rw[hv]at pJ;clear h hv;go_enter Tryz.func160,Tryz.ntmps160;go_wp2;go_quiet (fail);go_wp2;go_ret;exact⟨JI (by omega),_,rfl⟩
theorem cU(p c:Nat)(s:Value)(bs:List Nat)(w:World)(h:St w p s bs c):
  Calls Tryz.prog 135 #[.pointer (some ⟨p,0,none⟩)] w λe w'=>e=.returned (.int .i64 (c:Nat))/\w'=w:=by
 have mv:=h.cc;clear h;go_enter Tryz.func135,Tryz.ntmps135;go_wp2;go_ret;exact⟨rfl,rfl⟩
theorem Oh(p c:Nat)(n:Int)(s:Value)(bs:List Nat)(w:World)(h:St w p s bs c)(hn:n<0∨(c:Int)<n):
  Calls Tryz.prog 200 #[.pointer (some ⟨p,0,none⟩),.int .i64 n] w λe w'=>e=.returned (.int .i64 1)/\w'=w:=by
 have mv:=h.cc;clear h;by_cases h0:n<0
 ·clear hn;go_enter Tryz.func200,Tryz.ntmps200;go_wp2;go_ret;exact⟨rfl,rfl⟩
 ·have h1:(c:Int)<n:=(by omega);clear hn;go_enter Tryz.func200,Tryz.ntmps200;go_wp2;go_ret;exact⟨rfl,rfl⟩
theorem om(p c n:Nat)(s:Value)(bs:List Nat)(w:World)(h:St w p s bs c)(hn:n≤c)(hc:c≤1000000000000):
  Calls Tryz.prog 200 #[.pointer (some ⟨p,0,none⟩),.int .i64 (n:Nat)] w λe w'=>e=.returned (.int .i64 0)/\St w' p s bs (c-n)/\Kept (·=p) w w':=by
 have mv:=h.cc;have NK:=h.fc;have HS:Hid (St w p s bs c):=h;clear h;go_enter Tryz.func200,Tryz.ntmps200;go_wp2;go_ret;refine⟨rfl,?_,(Kept.refl _ w).setCell _ _ (.inl rfl)⟩;have:=HS.out.setCount (c-n);rw[show((c-n:Nat):Int)=(c:Int)-(n:Int)by omega]at this;exact this
theorem mf(p c:Nat)(s:Value)(bs:List Nat)(w:World)(h:St w p s bs c)(hc:c≤1000000000000):
  Calls Tryz.prog 138 #[.pointer (some ⟨p,0,none⟩)] w λe w'=>e=.returned (.int .i64 0)/\St w' p s bs ((c+7) / 8*8)/\Kept (·=p) w w':=by
 have mv:=h.cc;have NK:=h.fc;have HS:Hid (St w p s bs c):=h;clear h;go_enter Tryz.func138,Tryz.ntmps138;go_wp2;go_ret;refine⟨rfl,?_,(Kept.refl _ w).setCell _ _ (.inl rfl)⟩;have:=HS.out.setCount ((c+7) / 8*8);rw[show(((c+7) / 8*8:Nat):Int)=((c:Int)+8-1) / 8*8 by omega]at this;exact this
theorem rC(p c n:Nat)(s:Value)(bs:List Nat)(w:World)(h:St w p s bs c)(hc:c≤8*bs.length)(ag:bs.length≤100000000000)(hn:n≤32)(hm:8*bs.length<c+n):
  Calls Tryz.prog 131 #[.pointer (some ⟨p,0,none⟩),.int .i64 (n:Nat)] w λe w'=>e=.returned (.tuple #[.int .u32 0,.int .i64 10])/\∃m,w'=w.drewN m:=by
 have hd:decide (0<=(n:Int)/\(n:Int)<=32)=true:=by simp;omega
 have hh:((8*bs.length-c:Nat):Int)<(n:Int):=by omega
 have HC:=pZ p c s bs w h hc ag;obtain⟨q,hq⟩:∃q,q=8*bs.length-c:=⟨_,rfl⟩
 rw[<-hq]at HC hh;clear h hc ag hm hq;go_enter Tryz.func131,Tryz.ntmps131;go_wp2_with (first | (go_at_call 113;refine(rh _ _).mono ?_;rintro e w' ⟨rfl,rfl⟩;rw[hd]) | (go_at_call 160;refine HC.mono ?_;rintro e w' ⟨rfl,mq,rfl⟩));go_ret2;exact⟨rfl,_,rfl⟩
theorem gC(p c n:Nat)(s:Value)(bs:List Nat)(w:World)(h:St w p s bs c)(ag:bs.length≤100000000000)(hn:n≤32)(hm:c+n≤8*bs.length):
  Calls Tryz.prog 131 #[.pointer (some ⟨p,0,none⟩),.int .i64 (n:Nat)] w λe w'=>e=.returned (.tuple #[.int .u32 (aO bs / 2 ^ c % 2 ^ n:Nat),.int .i64 0]) /\
   St w' p s bs (c+n)/\Kept (·=p) w w':=by
 have hd:decide (0<=(n:Int)/\(n:Int)<=32)=true:=by simp;omega
 have hh:¬((8*bs.length-c:Nat):Int)<(n:Int):=by omega
 have HC:=pZ p c s bs w h (by omega) ag;have HD:=λm=>Kl (w.drewN m) p s bs c n (h.drewN m) hn hm ag
 obtain⟨q,hq⟩:∃q,q=8*bs.length-c:=⟨_,rfl⟩
 rw[<-hq]at HC hh;clear h ag hm hq;go_enter Tryz.func131,Tryz.ntmps131;go_wp2_with (first | (go_at_call 113;refine(rh _ _).mono ?_;rintro e w' ⟨rfl,rfl⟩;rw[hd]) | (go_at_call 160;refine HC.mono ?_;rintro e w' ⟨rfl,mq,rfl⟩) | (go_at_call 161;refine(HD mq).mono ?_;rintro e w' ⟨rfl,PL,hk'⟩));go_ret2;exact⟨rfl,PL,⟨hk'.os,hk'.tape,hk'.output,hk'.size,hk'.block⟩⟩
theorem rQ(v:Value)(I:Nat→Prop)(cs:List Nat)(w:World)(h:Src w I v cs)(ag:cs.length≤100000000000)(hb:∀b∈cs,b<256):
  Calls Tryz.prog 130 #[v] w λe w'=>∃p s,e=.returned (.pointer (some ⟨p,0,none⟩))/\St w' p s cs 0/\Kept (λ_=>False) w w'/\(∀k,Fp p s k->w.heap.size<=k):=by
 obtain⟨ao,cap,rfl,hsrc⟩:=id h;have HS:Hid (Src w I (.slice ao cs.length cap) cs):=h;clear h hsrc;go_enter Tryz.func130,Tryz.ntmps130;go_wp2_with (first | (at_make;refine eF _ rfl _ _ rfl _ _ _ _ cs.length rfl rfl rfl rfl (by omega) ?_;intro w1 hr1 pL hs1;have HR:Hid (Row w1 (.slice (some ⟨w.heap.size,0,none⟩) cs.length cs.length) (List.replicate cs.length 0)):=hr1;have HK:Hid (Kept (λ_=>False) w w1):=(Kept.refl _ w).grown pL (by simp);clear hr1 pL) | (with_reducible refine oy ?_;refine dD _ rfl (.tmp 12) (.tmp 13) rfl w.heap.size cs.length cs.length ao cs.length cap (List.replicate cs.length 0) cs I rfl rfl (World.ownsRow.alloc HR.out _) (HS.out.kept (HK.out.alloc _) (λ_ _ _ h=>h)) (by simp) ?_;intro w2 hr2 nN hs2));go_ret;have hk2:Kept (·=w.heap.size) (w1.alloc (.cells #[.slice (some ⟨w.heap.size,0,none⟩) cs.length cs.length,.int .i64 0] 232)) w2:=(Kept.refl _ _).grown nN (λk e=>.inl (by simpa using e.symm));have bm:¬w1.heap.size=w.heap.size:=by omega
 refine⟨w1.heap.size,.slice (some ⟨w.heap.size,0,none⟩) cs.length cs.length,rfl,⟨hk2.cell (by simp) bm,hk2.cell (by simp) bm,(hk2.frozen (by simp) bm).trans (by simp),(hk2.frozen (by simp) bm).trans (by simp),?_,by simp[Value.ownBlock];omega,hb⟩,?_,?_⟩
 ·simpa using hr2
 ·exact Kept.trans (H:=λ_=>False) (HK.out.alloc _) hk2 (λ_ _ h=>h) (λx hx e=>by omega)
 ·intro k hk;rcases hk with rfl | hk
  ·exact HK.out.size
  ·simp[Value.ownBlock]at hk;omega
theorem y6(p X c:Nat)(s:Value)(w:World)(h:Wr w p s X c)(hc:c≤100000000000):
  Calls Tryz.prog 90 #[.pointer (some ⟨p,0,none⟩)] w λe w'=>∃g bs,e=.returned (.slice (some ⟨g,0,none⟩) bs.length bs.length)/\Row w' (.slice (some ⟨g,0,none⟩) bs.length bs.length) bs/\(∀b∈bs,b<256) /\
   aO bs=X/\bs.length=(c+7) / 8/\Kept (λ_=>False) w w'/\w.heap.size<=g:=by
 obtain⟨bs,hst,hX,lO,yR⟩:=h.ex;obtain⟨ao,cap,hv,_⟩:=hst.row.shape;have pJ:=hst.cb;have Ph:∀w1,Kept (λ_=>False) w w1->w1.cell? ⟨p,0,none⟩=some (.slice ao bs.length cap):=λw1 hk=>hk.cell (by rw[pJ,hv]) (λh=>h)
 rw[hv]at pJ;have HS:Hid (Src w (λk=>(Value.slice ao bs.length cap).ownBlock=some k) (.slice ao bs.length cap) bs):=by have:=Src.ofRow hst.row;rw[hv]at this;exact this
 have HB:Hid (∀b∈bs,b<256):=hst.byte;have HX:Hid (aO bs=X):=hX;have ag:bs.length<=100000000000:=by omega
 have HL:Hid (bs.length=(c+7) / 8):=by show _=_;omega
 clear h hst hX lO yR hc hv;go_enter Tryz.func90,Tryz.ntmps90;go_wp2_with (first | (at_make;refine eF _ rfl _ _ rfl _ _ _ _ bs.length rfl rfl rfl rfl (by omega) ?_;intro w1 hr1 pL hs1;have HR:Hid (Row w1 (.slice (some ⟨w.heap.size,0,none⟩) bs.length bs.length) (List.replicate bs.length 0)):=hr1;have HK:Hid (Kept (λ_=>False) w w1):=(Kept.refl _ w).grown pL (by simp);have WU:=Ph w1 HK.out;clear hr1 pL) | (with_reducible refine oy ?_;refine dD _ rfl (.tmp 12) (.tmp 16) rfl w.heap.size bs.length bs.length ao bs.length cap (List.replicate bs.length 0) bs _ rfl rfl HR.out (HS.out.kept HK.out (λ_ _ _ h=>h)) (by simp) ?_;intro w2 hr2 nN hs2));go_ret;refine⟨w.heap.size,bs,rfl,by simpa using hr2,HB.out,HX.out,HL.out,?_,Nat.le_refl _⟩;refine HK.out.grown nN (λk e=>.inr ?_);simp at e;omega
end Go.Proofs.YtkhagfgineifhaaGreatDoor
