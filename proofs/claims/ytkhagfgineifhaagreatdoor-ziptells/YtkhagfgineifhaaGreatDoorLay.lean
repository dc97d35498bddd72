import Derived.Test.YtkhagfgineifhaaGreatDoorOwn
import Derived.Laws.BitsAllLaws
set_option maxHeartbeats 1000000
namespace Go.Proofs.YtkhagfgineifhaaGreatDoor
open Go.RowKit
structure Lays(w0 w:World)(p:Nat)(v0:Value)(X T:Nat)(v n:Nat)(s:Value)(bs:List Nat)(c:Nat):Prop where
 st:St w p s bs c
 kept:Kept (Fp p v0) w0 w
 own:s.ownBlock=v0.ownBlock\/∀k,s.ownBlock=some k->w0.heap.size<=k
 sum:aO bs+v*2 ^ c=X
 cnt:c+n=T
 lo:c<=8*bs.length
 hi:8*bs.length<=c+8
 hn:8*bs.length=c+8->0<n
 hv:v<2 ^ n
 hx:aO bs<2 ^ c
theorem Gw{w0 wr w1:World}{p:Nat}{v0 s v':Value}{X T v n c nq:Nat}{bs:List Nat}(h:Lays w0 wr p v0 X T v n s bs c)(h8:8*bs.length=c)(h0:0<n){o:Obj}
  (hrow:Row w1 v' (bs++[0])) (hg:((wr.drewN nq).alloc o).grownBy w1 s.ownBlock)
  (iO:v'.ownBlock=s.ownBlock\/v'.ownBlock=some (((wr.drewN nq).alloc o).heap.size)):
  Lays w0 (w1.setCell ⟨p,0,none⟩ v') p v0 X T v n v' (bs++[0]) c:=by
 have hk1:Kept (λk=>s.ownBlock=some k) wr w1:=(((Kept.refl _ wr).drewN nq).alloc o).grown hg (λk e=>.inl e);have dA:w0.heap.size<=wr.heap.size:=h.kept.size;have hlt:=h.st.lt;have hv:v'.ownBlock=s.ownBlock\/∀k,v'.ownBlock=some k->wr.heap.size<=k:=by
  rcases iO with e | e
  ·exact .inl e
  ·refine .inr (λk e'=>?_);rw[e]at e';simp at e';omega
 have bm:v'.ownBlock≠some p:=by
  rcases hv with e | e
  ·rw[e];exact h.st.ne
  ·intro e';have:=e p e';omega
 refine⟨h.st.setBytes hk1 hrow bm ?_,?_,?_,?_,h.cnt,by simp;omega,by simp;omega,λ_=>h0,h.hv,?_⟩
 ·intro b hb;rcases List.mem_append.1 hb with hb | hb
  ·exact h.st.byte b hb
  ·simp at hb;omega
 ·refine(Kept.trans (H:=Fp p v0) h.kept hk1 (λ_ _ e=>e) ?_).setCell _ _ (.inl (.inl rfl));intro x hx e;rcases h.own with e' | e'
  ·exact .inr (by rw[<-e',e])
  ·have:=e' x e;omega
 ·rcases hv with e | e
  ·rw[e];exact h.own
  ·exact .inr (λk e'=>Nat.le_trans dA (e k e'))
 ·rw[fQ];simpa[aO]using h.sum
 ·rw[fQ];simpa[aO]using h.hx
theorem GP{w0 wr:World}{p:Nat}{v0 s:Value}{X T v c:Nat}{bs:List Nat}(h:Lays w0 wr p v0 X T v 0 s bs c)(nq:Nat):Lays w0 (wr.drewN nq) p v0 X T 0 0 s bs T:=by
 have e:T=c:=by have:=h.cnt;omega
 have hv:v=0:=by have:=h.hv;simp at this;exact this
 subst e hv;exact⟨h.st.drewN nq,h.kept.drewN nq,h.own,h.sum,rfl,h.lo,h.hi,h.hn,by simp,h.hx⟩
theorem GM{w0 wr:World}{p:Nat}{v0:Value}{X T v n c g cap b free:Nat}{bs:List Nat}(h:Lays w0 wr p v0 X T v n (.slice (some ⟨g,0,none⟩) (bs.length+1) cap) (bs++[b]) c)
  (hf:c+free=8*(bs.length+1)) (NY:0<free) (hn:0<n) (nq:Nat):
  Lays w0 (((wr.drewN nq).setCell ⟨g,bs.length,none⟩ (.int .u8 (b ||| (v*2 ^ (8-free) % 256):Nat))).setCell ⟨p,1,none⟩ (.int .i64 (c+min free n:Nat))) p v0 X T (v / 2 ^ min free n) (n-min free n)
   (.slice (some ⟨g,0,none⟩) (bs.length+1) cap) (bs++[b ||| (v*2 ^ (8-free) % 256)]) (c+min free n):=by
 have RA:free<=8:=by have:=h.hi;simp at this;omega
 have hb:=Kn bs b c free (by omega) RA h.hx;have hx:b ||| (v*2 ^ (8-free) % 256)=b+2 ^ (8-free)*(v % 2 ^ free):=by rw[Gc v free RA];exact Gs _ _ _ hb
 have UZ:b ||| (v*2 ^ (8-free) % 256)<256:=by have h1:b<2 ^ 8:=h.st.byte b (by simp);have h2:v*2 ^ (8-free) % 256<2 ^ 8:=Nat.mod_lt _ (by decide);exact Nat.or_lt_two_pow h1 h2
 have PR:Row wr (.slice (some ⟨g,0,none⟩) (bs.length+1) cap) (bs++[b]):=h.st.row;have hst:=World.ownsRow.stored (n:=bs.length+1) (by simpa[Row]using PR) bs.length (.int .u8 (b ||| (v*2 ^ (8-free) % 256):Nat));have Po:Row (wr.setCell ⟨g,bs.length,none⟩ (.int .u8 (b ||| (v*2 ^ (8-free) % 256):Nat))) (.slice (some ⟨g,0,none⟩) (bs.length+1) cap) (bs++[b ||| (v*2 ^ (8-free) % 256)]):=by have:=hst.1;rw[List.set_append_right _ _ (by simp)]at this;simpa[Row,be]using this
 have Pa:g≠p:=by have:=h.st.ne;simpa[Value.ownBlock]using this
 have hk1:Kept (·=g) wr (wr.setCell ⟨g,bs.length,none⟩ (.int .u8 (b ||| (v*2 ^ (8-free) % 256):Nat))):=(Kept.refl _ wr).setCell _ _ (.inl rfl);have hs1:St (wr.setCell ⟨g,bs.length,none⟩ (.int .u8 (b ||| (v*2 ^ (8-free) % 256):Nat))) p (.slice (some ⟨g,0,none⟩) (bs.length+1) cap) (bs++[b ||| (v*2 ^ (8-free) % 256)]) c:=by
  refine⟨hk1.cell h.st.cb (Ne.symm Pa),hk1.cell h.st.cc (Ne.symm Pa),(hk1.frozen h.st.lt (Ne.symm Pa)).trans h.st.fb,(hk1.frozen h.st.lt (Ne.symm Pa)).trans h.st.fc,Po,h.st.ne,?_⟩;intro y hy;rcases List.mem_append.1 hy with hy | hy
  ·exact h.st.byte y (by simp[hy])
  ·simp at hy;subst hy;exact UZ
 have sj:aO (bs++[b ||| (v*2 ^ (8-free) % 256)])=aO (bs++[b])+2 ^ c*(v % 2 ^ free):=by rw[hx];exact GC bs b c free _ (by omega) RA
 refine⟨(hs1.setCount (c+min free n)).drewN nq,?_,h.own,?_,?_,?_,?_,?_,?_,?_⟩
 ·have hk2:=(Kept.refl (Fp p v0) (wr.setCell ⟨g,bs.length,none⟩ (.int .u8 (b ||| (v*2 ^ (8-free) % 256):Nat)))).setCell ⟨p,1,none⟩ (.int .i64 (c+min free n:Nat)) (.inl (.inl rfl));refine(Kept.trans (H:=Fp p v0) ?_ hk2 (λ_ _ e=>e) (λ_ _ e=>e)).drewN nq;refine Kept.trans (H:=Fp p v0) h.kept hk1 (λ_ _ e=>e) ?_;intro x Ny e;rcases h.own with e' | e'
  ·exact .inr (by rw[<-e',e];rfl)
  ·have:=e' x (by rw[e];rfl);omega
 ·rw[sj,GV _ _ _ _ _ h.hv];exact h.sum
 ·have:=h.cnt;omega
 ·simp;omega
 ·simp;omega
 ·intro e;simp at e;omega
 ·have hv:=h.hv;rw[Nat.div_lt_iff_lt_mul (Nat.two_pow_pos _),<-Nat.pow_add,show n-min free n+min free n=n by omega];exact hv
 ·rw[sj,Nat.pow_add];have h1:=h.hx;have h2:v % 2 ^ free<2 ^ min free n:=by
   by_cases Lm:free<=n
   ·rw[Nat.min_eq_left Lm];exact Nat.mod_lt _ (Nat.two_pow_pos _)
   ·rw[Nat.min_eq_right (by omega)];exact Nat.lt_of_le_of_lt (Nat.mod_le _ _) h.hv
  have h3:2 ^ c*(v % 2 ^ free+1)<=2 ^ c*2 ^ min free n:=Nat.mul_le_mul_left _ h2;rw[Nat.mul_add]at h3;omega
theorem yd{w0 wr:World}{p:Nat}{v0 s:Value}{X T v n c g cap b free m k:Nat}{bs bs1:List Nat}(h:Lays w0 wr p v0 X T v n s bs1 c)(hs:s=.slice (some ⟨g,0,none⟩) bs1.length cap)(hb:bs1=bs++[b]∧m=bs.length)
  (hf:c+free=8*(m+1)) (NY:0<free) (hn:0<n) (nq:Nat) {B V N C:Int} (hB:B=bits .or .u8 (b:Int) ((v:Int)*2 ^ (8-free) % 256)) (hV:V=(v:Int) / 2 ^ min free n) (hN:N=((n-min free n:Nat):Int)) (hC:C=((c+min free n:Nat):Int)) (hk:2*n-1<=k):
  ∃s' bs' c' v' n',Value.int .u32 V=Value.int .u32 (v':Nat)/\Value.int .i64 N=Value.int .i64 (n':Nat)/\(2*n'+if c'=8*bs'.length then 1 else 0)<=k /\
   Lays w0 (((wr.drewN nq).setCell ⟨g,m,none⟩ (.int .u8 B)).setCell ⟨p,1,none⟩ (.int .i64 C)) p v0 X T v' n' s' bs' c':=by
 obtain⟨rfl,rfl⟩:=hb;rw[List.length_append,List.length_singleton]at hs;subst hs;have R:=GM h hf NY hn nq;have RT:b<256:=h.st.byte b (by simp);have e:((v:Int)*2 ^ (8-free) % 256)=((v*2 ^ (8-free) % 256:Nat):Int):=by simp
 rw[e,u8_or_nat b _ RT (Nat.mod_lt _ (by decide))]at hB;subst hB hN hC;refine⟨_,_,_,v / 2 ^ min free n,n-min free n,by rw[hV];simp,rfl,?_,R⟩;split<;>omega
theorem JN(w:World)(p:Nat)(s:Value)(bs:List Nat)(c v n:Nat)(hst:St w p s bs c)(hv:v<2 ^ n)(hn:n≤32)(hc:c≤1000000000000)
  (lO:c<=8*bs.length) (yR:8*bs.length<c+8) (hx:aO bs<2 ^ c):
  Calls Tryz.prog 114 #[.pointer (some ⟨p,0,none⟩),.int .u32 v,.int .i64 n] w λe w'=>e=.returned (.tuple #[]) /\
   ∃s' bs',Lays w w' p s (aO bs+v*2 ^ c) (c+n) 0 0 s' bs' (c+n):=by
 go_enter Tryz.func114,Tryz.ntmps114;go_wp2;go_step3;go_wp2;go_step3;go_wp2;go_loopg [1,2] (2*n+1) (λk x y wr=>∃s' bs' c' v' n',x=.int .u32 (v':Nat)/\y=.int .i64 (n':Nat)/\2*n'+(if c'=8*bs'.length then 1 else 0)<=k/\Lays w wr p s (aO bs+v*2 ^ c) (c+n) v' n' s' bs' c')
 case atStart=>exact⟨s,bs,c,v,n,rfl,rfl,by split<;>omega,hst,Kept.refl _ _,.inl rfl,rfl,rfl,lO,by omega,by omega,hv,hx⟩
 case round=>
  obtain⟨s1,bs1,c1,v1,n1,rfl,rfl,hk,hl⟩:=hrel;have HL:Hid (Lays w wr p s (aO bs+v*2 ^ c) (c+n) v1 n1 s1 bs1 c1):=hl;have mv:=hl.st.cc;have pJ:=hl.st.cb;have Jg:=hl.st.fb;have NK:=hl.st.fc;have Sc:=hl.lo;have RV:=hl.hi;have tN:=hl.cnt;obtain⟨ao,cap,hs,hg⟩:=hl.st.row.shape;have HS:Hid (s1=Value.slice ao bs1.length cap):=hs;have HK:Hid (2*n1+(if c1=8*bs1.length then 1 else 0)<=gk):=hk;rw[hs]at pJ;obtain⟨L,hL⟩:∃L,L=bs1.length:=⟨_,rfl⟩
  rw[<-hL]at pJ Sc RV;have HLL:Hid (L=bs1.length):=hL;clear hk hL hst lO yR hx hv hs hg hl;have WQ:c1+n1<=1000000000032:=(by omega);clear tN;by_cases h0:n1=0
  ·go_wp2
   go_quiet (fail)
   go_wp2
   rw[Exit.noGoto_normal];go_end0;have hl:=HL.out;subst h0;exact⟨rfl,s1,bs1,GP hl nq⟩
  ·by_cases h8:8*L=c1
   ·go_wp2
    go_quiet (fail)
    have hrow:Row (wr.drewN nq) (.slice ao L cap) bs1:=(by have:=HL.out.st.row;rw[HS.out,<-HLL.out]at this;exact this);have HR:Hid (Row ((wr.drewN nq).alloc (.cells #[.int .u8 0] 5)) (.slice ao L cap) bs1):=World.ownsRow.alloc hrow _;have HLn:Hid (bs1.length+[0].length<=1000000000000):=(by have:=HLL.out;show bs1.length+1<=_;omega);clear hrow;go_wp2_with (at_builtin;refine eH _ rfl (.tmp 65) (.tmp 66) rfl (.slice ao L cap) bs1 rfl HR.out ⟨wr.heap.size,0,none⟩ 1 1 [0] rfl rfl (iq _ 0) HLn.out ?_);intro v' w1 hrow mw iO;have hl:=HL.out;have hs:=HS.out;rw[<-HLL.out]at hs;rw[<-hs]at mw iO;have R:=Gw hl (by rw[<-HLL.out];exact h8) (by omega) hrow mw (by simpa using iO);have hk1:Kept (λk=>s1.ownBlock=some k) wr w1:=(((Kept.refl _ wr).drewN nq).alloc _).grown mw (λk e=>.inl e);have Ph:=hk1.cell hl.st.cb hl.st.ne;have VU:=(hk1.frozen (p:=⟨p,0,none⟩) hl.st.lt hl.st.ne).trans hl.st.fb;have hm:2*n1+1<=gk:=(by have:=HK.out;rw[if_pos (by rw[<-HLL.out];omega)]at this;exact this);obtain⟨ao',cap',PL,_⟩:=Row.shape hrow;have RR:Hid (Lays w (w1.setCell ⟨p,0,none⟩ v') p s (aO bs+v*2 ^ c) (c+n) v1 n1 v' (bs1++[0]) c1):=R;have eL:(bs1++[0]).length=bs1.length+1:=(by simp);rw[eL]at PL;rw[PL]at RR ⊢;clear hrow mw iO hl hs R hk1 PL HR eL;go_wp2;go_roundg (2*n1)
    case measure=>omega
    case rel=>exact⟨_,_,c1,v1,n1,rfl,rfl,by rw[if_neg (by rw[List.length_append];have:=HLL.out;simp;omega)];omega,RR.out⟩
   ·obtain⟨bs2,b,hb⟩:∃bs2 b,bs1=bs2++[b]:=by
     have bm:bs1≠[]:=(by intro e;have:=HLL.out;rw[e]at this;simp at this;omega);exact⟨bs1.dropLast,bs1.getLast bm,(List.dropLast_concat_getLast bm).symm⟩
    obtain⟨m,hm⟩:∃m,m=bs2.length:=⟨_,rfl⟩
    have TA:L=m+1:=(by rw[HLL.out,hb,hm];simp);subst TA;have hl:=HL.out;obtain⟨g,Lk,bZ,WK⟩:∃g,ao=some ⟨g,0,none⟩/\wr.cell? ⟨g,m,none⟩=some (.int .u8 (b:Nat))/\wr.frozen? ⟨g,m,none⟩=false:=by
     obtain⟨ao',cap',e1,e2⟩:=hl.st.row.shape;have e3:=HS.out;rw[e1]at e3;injection e3 with e3 e4 e5;obtain⟨g,e6⟩:=e2 (by rw[hb];simp);subst e3 e5 e6;have hr:=hl.st.row;rw[e1]at hr;refine⟨g,rfl,?_,?_⟩
     ·rw[Row.cell hr m (by rw[hb,hm];simp)];simp[hb,hm]
     ·exact World.ownsRow.frozenAt hr m
    subst Lk;have HB:Hid (bs1=bs2++[b]/\m=bs2.length):=⟨hb,hm⟩
    clear hb hm hl;obtain⟨f,hf⟩:∃f,c1+f=8*(m+1):=⟨8*(m+1)-c1,by omega⟩
    have Pa:¬p=g:=(by intro e;have:=HL.out.st.ne;rw[HS.out]at this;exact this (by rw[e];rfl));by_cases Lm:f<=n1
    ·go_wp2
     go_quiet (fail)
     go_wp2_with fail;go_region
     go_wp2
     have hm:2*n1<=gk:=(by have:=HK.out;omega);go_roundg (2*n1-1)
     case measure=>omega
     case rel=>
      have Nw:min f n1=f:=(by omega);exact yd HL.out HS.out HB.out hf (by omega) (by omega) (nq+1) (by rw[show(m+1)*8-c1=f by omega]) (by rw[Nw,show(m+1)*8-c1=f by omega]) (by omega) (by omega) (Nat.le_refl _)
    ·go_wp2
     go_quiet (fail)
     go_wp2_with fail;go_region
     go_wp2
     have hm:2*n1<=gk:=(by have:=HK.out;omega);go_roundg (2*n1-1)
     case measure=>omega
     case rel=>
      have Nw:min f n1=n1:=(by omega);exact yd HL.out HS.out HB.out hf (by omega) (by omega) (nq+1) (by rw[show(m+1)*8-c1=f by omega]) (by rw[Nw]) (by omega) (by omega) (Nat.le_refl _)
end Go.Proofs.YtkhagfgineifhaaGreatDoor
