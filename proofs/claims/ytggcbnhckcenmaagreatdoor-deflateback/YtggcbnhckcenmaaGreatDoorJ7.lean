/-
  Of the proof: parts Cut, Lay, Writer, Reader, Ref, Ref2, Of.
-/
import Derived.Laws.BitsAllLaws
import Derived.Test.YtggcbnhckcenmaaGreatDoorJ3
import Derived.Test.YtggcbnhckcenmaaGreatDoorJ1

namespace Go.Proofs.YtggcbnhckcenmaaGreatDoor
open Go.RowKit

theorem cut_bits(V b u k got:Nat)(hV:V<2 ^ got)(hb:b<256)(hk:k≤8)(hg:got+k≤32):
  bits .or .u32 (V:Int) (bits .and .u32 ((b:Int) % 4294967296 / 2 ^ u) ((2 ^ k-1) % 4294967296)*2 ^ got % 4294967296)=((V+2 ^ got*(b / 2 ^ u % 2 ^ k):Nat):Int):=by
 have hk2:2 ^ k≤2 ^ 8:=Nat.pow_le_pow_right (by omega) hk
 have hk0:0<2 ^ k:=Nat.two_pow_pos k
 have e1:((b:Int) % 4294967296 / 2 ^ u)=((b / 2 ^ u:Nat):Int):=by
  rw[show((b:Int) % 4294967296)=(b:Int)by omega];simp
 have e2:(((2:Int) ^ k-1) % 4294967296)=((2 ^ k-1:Nat):Int):=by
  have:((2:Int) ^ k)=((2 ^ k:Nat):Int):=by simp
  rw[this]
  omega
 have h1:b / 2 ^ u<4294967296:=Nat.lt_of_le_of_lt (Nat.div_le_self _ _) (by omega)
 have h2:2 ^ k-1<4294967296:=by omega
 rw[e1,e2,u32_and_nat _ _ h1 h2,and_mask]
 have hm:b / 2 ^ u % 2 ^ k<2 ^ k:=Nat.mod_lt _ hk0
 have hlt:b / 2 ^ u % 2 ^ k*2 ^ got<4294967296:=by
  have h3:b / 2 ^ u % 2 ^ k*2 ^ got<2 ^ k*2 ^ got:=Nat.mul_lt_mul_of_pos_right hm (Nat.two_pow_pos _)
  have h4:2 ^ k*2 ^ got≤2 ^ 32:=by rw[←Nat.pow_add];exact Nat.pow_le_pow_right (by omega) (by omega)
  omega
 have e3:(((b / 2 ^ u % 2 ^ k:Nat):Int)*2 ^ got % 4294967296)=((b / 2 ^ u % 2 ^ k*2 ^ got:Nat):Int):=by
  have:((2:Int) ^ got)=((2 ^ got:Nat):Int):=by simp
  rw[this,←Int.natCast_mul]
  omega
 have hV32:V<4294967296:=by
  have:2 ^ got≤2 ^ 32:=Nat.pow_le_pow_right (by omega) (by omega)
  omega
 rw[e3,u32_or_nat _ _ hV32 hlt,Nat.mul_comm,or_add _ _ _ hV]

theorem cut_rel{w wr:World}{p:Nat}{s:Value}{bs:List Nat}{c n got k gk nq V b:Nat}(hs:St wr p s bs (c+got))(hkp:Kept (·=p) w wr)(hlt:(c+got) / 8<bs.length)(hb:b=bs[(c+got) / 8])(hV:V=n256 bs / 2 ^ c % 2 ^ got)
  (hk:(c+got) % 8+k≤8) (hkn:got+k≤n) (hn:n≤32) (hgk:n-(got+k)≤gk) {M G C:Int} (hM:M=bits .or .u32 (V:Int) (bits .and .u32 ((b:Int) % 4294967296 / 2 ^ ((c+got) % 8)) ((2 ^ k-1) % 4294967296)*2 ^ got % 4294967296))
  (hG:G=((got+k:Nat):Int)) (hC:C=((c+(got+k):Nat):Int)):
  ∃got':Nat,got'≤n∧n-got'≤gk∧Value.int .u32 M=.int .u32 (n256 bs / 2 ^ c % 2 ^ got':Nat)∧Value.int .i64 G=.int .i64 (got':Nat)∧St ((wr.drewN nq).setCell ⟨p,1,none⟩ (.int .i64 C)) p s bs (c+got')∧Kept (·=p) w ((wr.drewN nq).setCell ⟨p,1,none⟩ (.int .i64 C)):=by
 have hb8:b<256:=by rw[hb];exact hs.byte _ (List.getElem_mem _)
 have hV2:V<2 ^ got:=by rw[hV];exact Nat.mod_lt _ (Nat.two_pow_pos _)
 have e:=cut_step bs hs.byte c got k hk hlt
 subst hG hC
 refine⟨got+k,hkn,hgk,?_,rfl,(hs.drewN nq).setCount _,(hkp.drewN nq).setCell _ _ (.inl rfl)⟩
 rw[hM,cut_bits V b _ k got hV2 hb8 (by omega) (by omega),←e,hb,hV]

set_option maxHeartbeats 1000000 in
theorem cut_any(w:World)(p:Nat)(s:Value)(bs:List Nat)(c n:Nat)(hst:St w p s bs c)(hn:n≤32)(hc:c+n≤8*bs.length)(hlen:bs.length≤100000000000):
  Calls Tryz.prog 109 #[.pointer (some ⟨p,0,none⟩),.int .i64 (n:Nat)] w fun e w'=>e=.returned (.int .u32 (n256 bs / 2 ^ c % 2 ^ n:Nat)) ∧
   St w' p s bs (c+n)∧Kept (·=p) w w':=by
 go_enter Tryz.func109,Tryz.ntmps109
 go_wp2
 go_step3
 go_wp2
 go_step3
 go_wp2
 go_loopg [5,6] n (fun k x y wr=>∃got:Nat,got≤n∧n-got≤k∧x=.int .u32 (n256 bs / 2 ^ c % 2 ^ got:Nat)∧y=.int .i64 (got:Nat)∧St wr p s bs (c+got)∧Kept (·=p) w wr)
 case atStart=>exact⟨0,by omega,by omega,by simp[Nat.mod_one],rfl,hst,Kept.refl _ _⟩
 case round=>
  obtain⟨got,hg1,hg2,rfl,rfl,hs,hk⟩:=hrel
  have HS:Hid (St wr p s bs (c+got)):=hs
  have HK:Hid (Kept (·=p) w wr):=hk
  by_cases h0:got=n
  ·subst h0
   clear hst hs
   go_wp2
   rw[Exit.noGoto_ret]
   go_ret
   exact⟨rfl,HS.out,HK.out⟩
  ·obtain⟨ao,cap,hv,hg⟩:=hs.row.shape
   have hlt:(c+got) / 8<bs.length:=by omega
   obtain⟨g,hao⟩:=hg (by intro e;rw[e]at hlt;simp at hlt)
   subst hao
   have hcell:wr.cell? ⟨g,(c+got) / 8,none⟩=some (.int .u8 (bs[(c+got) / 8]:Nat)):=by
    have hr:=hs.row;rw[hv]at hr;exact Row.cell hr _ hlt
   have hcb:=hs.cb
   have hcc:=hs.cc
   have hfc:=hs.fc
   rw[hv]at hcb
   obtain⟨u,hu⟩:∃u,u=(c+got) % 8:=⟨_,rfl⟩
   obtain⟨b,hb⟩:∃b,b=bs[(c+got) / 8]:=⟨_,rfl⟩
   rw[←hb]at hcell
   obtain⟨V,hV⟩:∃V,V=n256 bs / 2 ^ c % 2 ^ got:=⟨_,rfl⟩
   rw[←hV]
   have HB:Hid (b=bs[(c+got) / 8]):=hb
   have HU:Hid (V=n256 bs / 2 ^ c % 2 ^ got):=hV
   clear hst hs hk hv hg hu hb hV
   by_cases hp:8-(c+got) % 8≤n-got
   ·go_wp2
    go_quiet (fail)
    go_wp2
    go_roundg (gk-1)
    case measure=>omega
    case rel=>
     exact cut_rel (k:=8-(c+got) % 8) HS.out HK.out hlt HB.out HU.out (by omega) (by omega) hn (by omega) rfl (by omega) (by omega)
   ·go_wp2
    go_quiet (fail)
    go_wp2
    go_roundg (gk-1)
    case measure=>omega
    case rel=>
     exact cut_rel (k:=n-got) HS.out HK.out hlt HB.out HU.out (by omega) (by omega) hn (by omega) rfl (by omega) (by omega)
end Go.Proofs.YtggcbnhckcenmaaGreatDoor

namespace Go.Proofs.YtggcbnhckcenmaaGreatDoor
open Go.RowKit

structure Lays(w0 w:World)(p:Nat)(v0:Value)(X T:Nat)(v n:Nat)(s:Value)(bs:List Nat)(c:Nat):Prop where
 st:St w p s bs c
 kept:Kept (Fp p v0) w0 w
 own:s.ownBlock=v0.ownBlock∨∀k,s.ownBlock=some k→w0.heap.size≤k
 sum:n256 bs+v*2 ^ c=X
 cnt:c+n=T
 lo:c≤8*bs.length
 hi:8*bs.length≤c+8
 hn:8*bs.length=c+8→0<n
 hv:v<2 ^ n
 hx:n256 bs<2 ^ c

theorem lays_app{w0 wr w1:World}{p:Nat}{v0 s v':Value}{X T v n c nq:Nat}{bs:List Nat}(h:Lays w0 wr p v0 X T v n s bs c)(h8:8*bs.length=c)(h0:0<n){o:Obj}
  (hrow:Row w1 v' (bs++[0])) (hg:((wr.drewN nq).alloc o).grownBy w1 s.ownBlock)
  (hv':v'.ownBlock=s.ownBlock∨v'.ownBlock=some (((wr.drewN nq).alloc o).heap.size)):
  Lays w0 (w1.setCell ⟨p,0,none⟩ v') p v0 X T v n v' (bs++[0]) c:=by
 have hk1:Kept (fun k=>s.ownBlock=some k) wr w1:=(((Kept.refl _ wr).drewN nq).alloc o).grown hg (fun k e=>.inl e)
 have hsz:w0.heap.size≤wr.heap.size:=h.kept.size
 have hlt:=h.st.lt
 have hv:v'.ownBlock=s.ownBlock∨∀k,v'.ownBlock=some k→wr.heap.size≤k:=by
  rcases hv' with e | e
  ·exact .inl e
  ·refine .inr (fun k e'=>?_)
   rw[e]at e'
   simp at e'
   omega
 have hne:v'.ownBlock≠some p:=by
  rcases hv with e | e
  ·rw[e];exact h.st.ne
  ·intro e';have:=e p e';omega
 refine⟨h.st.setBytes hk1 hrow hne ?_,?_,?_,?_,h.cnt,by simp;omega,by simp;omega,fun _=>h0,h.hv,?_⟩
 ·intro b hb
  rcases List.mem_append.1 hb with hb | hb
  ·exact h.st.byte b hb
  ·simp at hb;omega
 ·refine(Kept.trans (H:=Fp p v0) h.kept hk1 (fun _ _ e=>e) ?_).setCell _ _ (.inl (.inl rfl))
  intro x hx e
  rcases h.own with e' | e'
  ·exact .inr (by rw[←e',e])
  ·have:=e' x e;omega
 ·rcases hv with e | e
  ·rw[e];exact h.own
  ·exact .inr (fun k e'=>Nat.le_trans hsz (e k e'))
 ·rw[n256_append];simpa[n256]using h.sum
 ·rw[n256_append];simpa[n256]using h.hx

theorem lays_end{w0 wr:World}{p:Nat}{v0 s:Value}{X T v c:Nat}{bs:List Nat}(h:Lays w0 wr p v0 X T v 0 s bs c)(nq:Nat):Lays w0 (wr.drewN nq) p v0 X T 0 0 s bs T:=by
 have e:T=c:=by have:=h.cnt;omega
 have hv:v=0:=by have:=h.hv;simp at this;exact this
 subst e hv
 exact⟨h.st.drewN nq,h.kept.drewN nq,h.own,h.sum,rfl,h.lo,h.hi,h.hn,by simp,h.hx⟩

theorem lays_put{w0 wr:World}{p:Nat}{v0:Value}{X T v n c g cap b free:Nat}{bs:List Nat}(h:Lays w0 wr p v0 X T v n (.slice (some ⟨g,0,none⟩) (bs.length+1) cap) (bs++[b]) c)
  (hf:c+free=8*(bs.length+1)) (hf0:0<free) (hn:0<n) (nq:Nat):
  Lays w0 (((wr.drewN nq).setCell ⟨g,bs.length,none⟩ (.int .u8 (b ||| (v*2 ^ (8-free) % 256):Nat))).setCell ⟨p,1,none⟩ (.int .i64 (c+min free n:Nat))) p v0 X T (v / 2 ^ min free n) (n-min free n)
   (.slice (some ⟨g,0,none⟩) (bs.length+1) cap) (bs++[b ||| (v*2 ^ (8-free) % 256)]) (c+min free n):=by
 have hf8:free≤8:=by have:=h.hi;simp at this;omega
 have hb:=last_lt bs b c free (by omega) hf8 h.hx
 have hx:b ||| (v*2 ^ (8-free) % 256)=b+2 ^ (8-free)*(v % 2 ^ free):=by rw[shl_byte v free hf8];exact or_add _ _ _ hb
 have hx8:b ||| (v*2 ^ (8-free) % 256)<256:=by
  have h1:b<2 ^ 8:=h.st.byte b (by simp)
  have h2:v*2 ^ (8-free) % 256<2 ^ 8:=Nat.mod_lt _ (by decide)
  exact Nat.or_lt_two_pow h1 h2
 have hrow0:Row wr (.slice (some ⟨g,0,none⟩) (bs.length+1) cap) (bs++[b]):=h.st.row
 have hst:=World.ownsRow.stored (n:=bs.length+1) (by simpa[Row]using hrow0) bs.length (.int .u8 (b ||| (v*2 ^ (8-free) % 256):Nat))
 have hrow1:Row (wr.setCell ⟨g,bs.length,none⟩ (.int .u8 (b ||| (v*2 ^ (8-free) % 256):Nat))) (.slice (some ⟨g,0,none⟩) (bs.length+1) cap) (bs++[b ||| (v*2 ^ (8-free) % 256)]):=by
  have:=hst.1
  rw[List.set_append_right _ _ (by simp)]at this
  simpa[Row,byteV]using this
 have hgp:g≠p:=by have:=h.st.ne;simpa[Value.ownBlock]using this
 have hk1:Kept (·=g) wr (wr.setCell ⟨g,bs.length,none⟩ (.int .u8 (b ||| (v*2 ^ (8-free) % 256):Nat))):=(Kept.refl _ wr).setCell _ _ (.inl rfl)
 have hs1:St (wr.setCell ⟨g,bs.length,none⟩ (.int .u8 (b ||| (v*2 ^ (8-free) % 256):Nat))) p (.slice (some ⟨g,0,none⟩) (bs.length+1) cap) (bs++[b ||| (v*2 ^ (8-free) % 256)]) c:=by
  refine⟨hk1.cell h.st.cb (Ne.symm hgp),hk1.cell h.st.cc (Ne.symm hgp),(hk1.frozen h.st.lt (Ne.symm hgp)).trans h.st.fb,(hk1.frozen h.st.lt (Ne.symm hgp)).trans h.st.fc,hrow1,h.st.ne,?_⟩
  intro y hy
  rcases List.mem_append.1 hy with hy | hy
  ·exact h.st.byte y (by simp[hy])
  ·simp at hy;subst hy;exact hx8
 have hsum:n256 (bs++[b ||| (v*2 ^ (8-free) % 256)])=n256 (bs++[b])+2 ^ c*(v % 2 ^ free):=by rw[hx];exact last_set bs b c free _ (by omega) hf8
 refine⟨(hs1.setCount (c+min free n)).drewN nq,?_,h.own,?_,?_,?_,?_,?_,?_,?_⟩
 ·have hk2:=(Kept.refl (Fp p v0) (wr.setCell ⟨g,bs.length,none⟩ (.int .u8 (b ||| (v*2 ^ (8-free) % 256):Nat)))).setCell ⟨p,1,none⟩ (.int .i64 (c+min free n:Nat)) (.inl (.inl rfl))
  refine(Kept.trans (H:=Fp p v0) ?_ hk2 (fun _ _ e=>e) (fun _ _ e=>e)).drewN nq
  refine Kept.trans (H:=Fp p v0) h.kept hk1 (fun _ _ e=>e) ?_
  intro x hx' e
  rcases h.own with e' | e'
  ·exact .inr (by rw[←e',e];rfl)
  ·have:=e' x (by rw[e];rfl);omega
 ·rw[hsum,lay_step _ _ _ _ _ h.hv];exact h.sum
 ·have:=h.cnt;omega
 ·simp;omega
 ·simp;omega
 ·intro e;simp at e;omega
 ·have hv:=h.hv
  rw[Nat.div_lt_iff_lt_mul (Nat.two_pow_pos _),←Nat.pow_add,show n-min free n+min free n=n by omega]
  exact hv
 ·rw[hsum,Nat.pow_add]
  have h1:=h.hx
  have h2:v % 2 ^ free<2 ^ min free n:=by
   by_cases hfn:free≤n
   ·rw[Nat.min_eq_left hfn];exact Nat.mod_lt _ (Nat.two_pow_pos _)
   ·rw[Nat.min_eq_right (by omega)];exact Nat.lt_of_le_of_lt (Nat.mod_le _ _) h.hv
  have h3:2 ^ c*(v % 2 ^ free+1)≤2 ^ c*2 ^ min free n:=Nat.mul_le_mul_left _ h2
  rw[Nat.mul_add]at h3
  omega

theorem lays_rel{w0 wr:World}{p:Nat}{v0 s:Value}{X T v n c g cap b free m k:Nat}{bs bs1:List Nat}(h:Lays w0 wr p v0 X T v n s bs1 c)(hs:s=.slice (some ⟨g,0,none⟩) bs1.length cap)(hb:bs1=bs++[b]∧m=bs.length)
  (hf:c+free=8*(m+1)) (hf0:0<free) (hn:0<n) (nq:Nat) {B V N C:Int} (hB:B=bits .or .u8 (b:Int) ((v:Int)*2 ^ (8-free) % 256)) (hV:V=(v:Int) / 2 ^ min free n) (hN:N=((n-min free n:Nat):Int)) (hC:C=((c+min free n:Nat):Int)) (hk:2*n-1≤k):
  ∃s' bs' c' v' n',Value.int .u32 V=Value.int .u32 (v':Nat)∧Value.int .i64 N=Value.int .i64 (n':Nat)∧(2*n'+if c'=8*bs'.length then 1 else 0)≤k ∧
   Lays w0 (((wr.drewN nq).setCell ⟨g,m,none⟩ (.int .u8 B)).setCell ⟨p,1,none⟩ (.int .i64 C)) p v0 X T v' n' s' bs' c':=by
 obtain⟨rfl,rfl⟩:=hb
 rw[List.length_append,List.length_singleton]at hs
 subst hs
 have R:=lays_put h hf hf0 hn nq
 have hb8:b<256:=h.st.byte b (by simp)
 have e:((v:Int)*2 ^ (8-free) % 256)=((v*2 ^ (8-free) % 256:Nat):Int):=by simp
 rw[e,u8_or_nat b _ hb8 (Nat.mod_lt _ (by decide))]at hB
 subst hB hN hC
 refine⟨_,_,_,v / 2 ^ min free n,n-min free n,by rw[hV];simp,rfl,?_,R⟩
 split<;>omega

set_option maxHeartbeats 1000000 in
theorem lay_any(w:World)(p:Nat)(s:Value)(bs:List Nat)(c v n:Nat)(hst:St w p s bs c)(hv:v<2 ^ n)(hn:n≤32)(hc:c≤1000000000000)
  (hlo:c≤8*bs.length) (hhi:8*bs.length<c+8) (hx:n256 bs<2 ^ c):
  Calls Tryz.prog 83 #[.pointer (some ⟨p,0,none⟩),.int .u32 v,.int .i64 n] w fun e w'=>e=.returned (.tuple #[]) ∧
   ∃s' bs',Lays w w' p s (n256 bs+v*2 ^ c) (c+n) 0 0 s' bs' (c+n):=by
 go_enter Tryz.func83,Tryz.ntmps83
 go_wp2
 go_step3
 go_wp2
 go_step3
 go_wp2
 go_loopg [1,2] (2*n+1) (fun k x y wr=>∃s' bs' c' v' n',x=.int .u32 (v':Nat)∧y=.int .i64 (n':Nat)∧2*n'+(if c'=8*bs'.length then 1 else 0)≤k∧Lays w wr p s (n256 bs+v*2 ^ c) (c+n) v' n' s' bs' c')
 case atStart=>exact⟨s,bs,c,v,n,rfl,rfl,by split<;>omega,hst,Kept.refl _ _,.inl rfl,rfl,rfl,hlo,by omega,by omega,hv,hx⟩
 case round=>
  obtain⟨s1,bs1,c1,v1,n1,rfl,rfl,hk,hl⟩:=hrel
  have HL:Hid (Lays w wr p s (n256 bs+v*2 ^ c) (c+n) v1 n1 s1 bs1 c1):=hl
  have hcc:=hl.st.cc
  have hcb:=hl.st.cb
  have hfb:=hl.st.fb
  have hfc:=hl.st.fc
  have hlo1:=hl.lo
  have hhi1:=hl.hi
  have hcn:=hl.cnt
  obtain⟨ao,cap,hs,hg⟩:=hl.st.row.shape
  have HS:Hid (s1=Value.slice ao bs1.length cap):=hs
  have HK:Hid (2*n1+(if c1=8*bs1.length then 1 else 0)≤gk):=hk
  rw[hs]at hcb
  obtain⟨L,hL⟩:∃L,L=bs1.length:=⟨_,rfl⟩
  rw[←hL]at hcb hlo1 hhi1
  have HLL:Hid (L=bs1.length):=hL
  clear hk hL hst hlo hhi hx hv hs hg hl
  have hcn':c1+n1≤1000000000032:=by omega
  clear hcn
  by_cases h0:n1=0
  ·go_wp2
   go_quiet (fail)
   go_wp2
   rw[Exit.noGoto_normal]
   go_end0
   have hl:=HL.out
   subst h0
   exact⟨rfl,s1,bs1,lays_end hl nq⟩
  ·by_cases h8:8*L=c1
   ·go_wp2
    go_quiet (fail)
    have hrow:Row (wr.drewN nq) (.slice ao L cap) bs1:=by have:=HL.out.st.row;rw[HS.out,←HLL.out]at this;exact this
    have HR:Hid (Row ((wr.drewN nq).alloc (.cells #[.int .u8 0] 5)) (.slice ao L cap) bs1):=World.ownsRow.alloc hrow _
    have HLn:Hid (bs1.length+[0].length≤1000000000000):=by have:=HLL.out;show bs1.length+1≤_;omega
    clear hrow
    go_wp2_with (at_builtin;refine wpList_append_row _ rfl (.tmp 65) (.tmp 66) rfl (.slice ao L cap) bs1 rfl HR.out ⟨wr.heap.size,0,none⟩ 1 1 [0] rfl rfl (bytesAt_new _ 0) HLn.out ?_)
    intro v' w1 hrow hgr hv'
    have hl:=HL.out
    have hs:=HS.out
    rw[←HLL.out]at hs
    rw[←hs]at hgr hv'
    have R:=lays_app hl (by rw[←HLL.out];exact h8) (by omega) hrow hgr (by simpa using hv')
    have hk1:Kept (fun k=>s1.ownBlock=some k) wr w1:=(((Kept.refl _ wr).drewN nq).alloc _).grown hgr (fun k e=>.inl e)
    have hcb1:=hk1.cell hl.st.cb hl.st.ne
    have hfb1:=(hk1.frozen (p:=⟨p,0,none⟩) hl.st.lt hl.st.ne).trans hl.st.fb
    have hm:2*n1+1≤gk:=by have:=HK.out;rw[if_pos (by rw[←HLL.out];omega)]at this;exact this
    obtain⟨ao',cap',hs',_⟩:=Row.shape hrow
    have RR:Hid (Lays w (w1.setCell ⟨p,0,none⟩ v') p s (n256 bs+v*2 ^ c) (c+n) v1 n1 v' (bs1++[0]) c1):=R
    have eL:(bs1++[0]).length=bs1.length+1:=by simp
    rw[eL]at hs'
    rw[hs']at RR ⊢
    clear hrow hgr hv' hl hs R hk1 hs' HR eL
    go_wp2
    go_roundg (2*n1)
    case measure=>omega
    case rel=>exact⟨_,_,c1,v1,n1,rfl,rfl,by rw[if_neg (by rw[List.length_append];have:=HLL.out;simp;omega)];omega,RR.out⟩
   ·obtain⟨bs2,b,hb⟩:∃bs2 b,bs1=bs2++[b]:=by
     have hne:bs1≠[]:=by intro e;have:=HLL.out;rw[e]at this;simp at this;omega
     exact⟨bs1.dropLast,bs1.getLast hne,(List.dropLast_concat_getLast hne).symm⟩
    obtain⟨m,hm⟩:∃m,m=bs2.length:=⟨_,rfl⟩
    have hLm:L=m+1:=by rw[HLL.out,hb,hm];simp
    subst hLm
    have hl:=HL.out
    obtain⟨g,hao,hcell,hfr⟩:∃g,ao=some ⟨g,0,none⟩∧wr.cell? ⟨g,m,none⟩=some (.int .u8 (b:Nat))∧wr.frozen? ⟨g,m,none⟩=false:=by
     obtain⟨ao',cap',e1,e2⟩:=hl.st.row.shape
     have e3:=HS.out
     rw[e1]at e3
     injection e3 with e3 e4 e5
     obtain⟨g,e6⟩:=e2 (by rw[hb];simp)
     subst e3 e5 e6
     have hr:=hl.st.row
     rw[e1]at hr
     refine⟨g,rfl,?_,?_⟩
     ·rw[Row.cell hr m (by rw[hb,hm];simp)];simp[hb,hm]
     ·exact World.ownsRow.frozenAt hr m
    subst hao
    have HB:Hid (bs1=bs2++[b]∧m=bs2.length):=⟨hb,hm⟩
    clear hb hm hl
    obtain⟨f,hf⟩:∃f,c1+f=8*(m+1):=⟨8*(m+1)-c1,by omega⟩
    have hgp:¬p=g:=by intro e;have:=HL.out.st.ne;rw[HS.out]at this;exact this (by rw[e];rfl)
    by_cases hfn:f≤n1
    ·go_wp2
     go_quiet (fail)
     go_wp2_with fail
     go_region
     go_wp2
     have hm:2*n1≤gk:=by have:=HK.out;omega
     go_roundg (2*n1-1)
     case measure=>omega
     case rel=>
      have hmf:min f n1=f:=by omega
      exact lays_rel HL.out HS.out HB.out hf (by omega) (by omega) (nq+1) (by rw[show(m+1)*8-c1=f by omega]) (by rw[hmf,show(m+1)*8-c1=f by omega]) (by omega) (by omega) (Nat.le_refl _)
    ·go_wp2
     go_quiet (fail)
     go_wp2_with fail
     go_region
     go_wp2
     have hm:2*n1≤gk:=by have:=HK.out;omega
     go_roundg (2*n1-1)
     case measure=>omega
     case rel=>
      have hmf:min f n1=n1:=by omega
      exact lays_rel HL.out HS.out HB.out hf (by omega) (by omega) (nq+1) (by rw[show(m+1)*8-c1=f by omega]) (by rw[hmf]) (by omega) (by omega) (Nat.le_refl _)
end Go.Proofs.YtggcbnhckcenmaaGreatDoor

namespace Go.Proofs.YtggcbnhckcenmaaGreatDoor
open Go.RowKit

structure Wr(w:World)(p:Nat)(s:Value)(X c:Nat):Prop where
 ex:∃bs,St w p s bs c∧n256 bs=X∧c≤8*bs.length∧8*bs.length<c+8
 lt:X<2 ^ c

def Grew(w:World)(s s':Value):Prop:=s'.ownBlock=s.ownBlock∨∀k,s'.ownBlock=some k→w.heap.size≤k

theorem Wr.kept{F:Nat→Prop}{w w':World}{p:Nat}{s:Value}{X c:Nat}(h:Wr w p s X c)(hk:Kept F w w')(hn:∀k,Fp p s k→¬F k):Wr w' p s X c:=by
 obtain⟨bs,h1,h2⟩:=h.ex
 exact⟨⟨bs,h1.kept hk hn,h2⟩,h.lt⟩

theorem Wr.fp_lt{w:World}{p:Nat}{s:Value}{X c:Nat}(h:Wr w p s X c){k:Nat}(hk:Fp p s k):k<w.heap.size:=by
 obtain⟨bs,h1,_⟩:=h.ex
 exact h1.fp_lt hk

theorem newWriter_any(w:World):
  Calls Tryz.prog 81 #[] w fun e w'=>e=.returned (.pointer (some ⟨w.heap.size,0,none⟩))∧Wr w' w.heap.size (.slice none 0 0) 0 0∧Kept (fun _=>False) w w'∧w'.heap.size=w.heap.size+1:=by
 go_enter Tryz.func81,Tryz.ntmps81
 go_wp2
 go_ret
 refine⟨rfl,⟨⟨[],⟨by simp,by simp,by simp,by simp,World.ownsRow_nil _ _ _ _,by simp[Value.ownBlock],by simp⟩,rfl,by simp,by simp⟩,by simp⟩,(Kept.refl _ w).alloc _,by simp⟩

set_option maxHeartbeats 400000 in
theorem fits_any(n:Int)(w:World):
  Calls Tryz.prog 82 #[.int .i64 n] w fun e w'=>e=.returned (.bool (decide (0≤n∧n≤32)))∧w'=w:=by
 by_cases h0:0≤n
 ·by_cases h1:n≤32
  all_goals
   go_enter Tryz.func82,Tryz.ntmps82
   go_wp2
   go_ret
   exact⟨by simp[h0,h1],rfl⟩
 ·go_enter Tryz.func82,Tryz.ntmps82
  go_wp2
  go_ret
  exact⟨by simp;omega,rfl⟩

set_option maxHeartbeats 400000 in
theorem put_good(p v n X c:Nat)(s:Value)(w:World)(h:n≤32)(hv:v<2 ^ n)(hw:Wr w p s X c)(hc:c≤1000000000000):
  Calls Tryz.prog 56 #[.pointer (some ⟨p,0,none⟩),.int .u32 (v:Nat),.int .i64 (n:Nat)] w fun e w'=>e=.returned (.int .i64 0) ∧
   ∃s',Wr w' p s' (X+v*2 ^ c) (c+n)∧Kept (Fp p s) w w'∧Grew w s s':=by
 have hd:decide (0≤(n:Int)∧(n:Int)≤32)=true:=by simp;omega
 have hq:(v:Int) / 2 ^ n=0:=by
  rw[show((v:Int) / 2 ^ n)=((v / 2 ^ n:Nat):Int)by simp,Nat.div_eq_of_lt hv];rfl
 obtain⟨bs,hst,hX,hlo,hhi⟩:=hw.ex
 have HX:Hid (n256 bs=X):=hX
 have HW:Hid (X<2 ^ c):=hw.lt
 have HC:=lay_any w p s bs c v n hst hv h hc hlo hhi (by rw[hX];exact hw.lt)
 clear hX hw hst hlo hhi
 go_enter Tryz.func56,Tryz.ntmps56
 go_wp2_with (first | (go_at_call 82;refine(fits_any _ _).mono ?_;rintro e w' ⟨rfl,rfl⟩;rw[hd]) | (go_at_call 83;refine HC.mono ?_;rintro e w' ⟨rfl,s',bs',hl⟩))
 go_ret
 refine⟨rfl,s',⟨⟨bs',hl.st,?_,hl.lo,?_⟩,?_⟩,hl.kept,hl.own⟩
 ·have:=hl.sum;rw[HX.out]at this;simpa using this
 ·have:=hl.hi;have:=hl.hn;omega
 ·have h1:=hl.sum
  have h2:=hl.hx
  rw[HX.out]at h1
  simp at h1
  omega

set_option maxHeartbeats 400000 in
theorem walign_any(p:Nat)(c X:Nat)(s:Value)(w:World)(h:Wr w p s X c)(hc:c≤1000000000000):
  Calls Tryz.prog 55 #[.pointer (some ⟨p,0,none⟩)] w fun e w'=>e=.returned (.int .i64 0)∧Wr w' p s X ((c+7) / 8*8)∧Kept (Fp p s) w w':=by
 obtain⟨bs,hst,hX,hlo,hhi⟩:=h.ex
 have hfc:=hst.fc
 have hcc:=hst.cc
 have hcb:=hst.cb
 have HX:Hid (n256 bs=X):=hX
 have HW:Hid (X<2 ^ c):=h.lt
 have HS:Hid (St w p s bs c):=hst
 obtain⟨ao,cap,hs,_⟩:=hst.row.shape
 rw[hs]at hcb
 have hL:bs.length≤1000000000000:=by omega
 clear h hst hX hs
 go_enter Tryz.func55,Tryz.ntmps55
 go_wp2
 go_ret
 have e:(c+7) / 8*8=bs.length*8:=by omega
 refine⟨rfl,?_,(Kept.refl _ w).setCell _ _ (.inl (.inl rfl))⟩
 rw[e]
 refine⟨⟨bs,HS.out.setCount (bs.length*8),HX.out,by omega,by omega⟩,?_⟩
 exact Nat.lt_of_lt_of_le HW.out (Nat.pow_le_pow_right (by omega) (by omega))

end Go.Proofs.YtggcbnhckcenmaaGreatDoor

namespace Go.Proofs.YtggcbnhckcenmaaGreatDoor
open Go.RowKit

theorem ret_int{k:IntKind}{a b:Int}(h:a=b):Ending.returned (.int k a)=.returned (.int k b):=by rw[h]

theorem left_any(p c:Nat)(s:Value)(bs:List Nat)(w:World)(h:St w p s bs c)(hc:c≤8*bs.length)(hlen:bs.length≤100000000000):
  Calls Tryz.prog 108 #[.pointer (some ⟨p,0,none⟩)] w fun e w'=>e=.returned (.int .i64 ((8*bs.length-c:Nat):Int))∧∃m,w'=w.drewN m:=by
 obtain⟨ao,cap,hv,_⟩:=h.row.shape
 have hcb:=h.cb
 have hcc:=h.cc
 rw[hv]at hcb
 clear h hv
 go_enter Tryz.func108,Tryz.ntmps108
 go_wp2
 go_quiet (fail)
 go_wp2
 go_ret
 exact⟨ret_int (by omega),_,rfl⟩

theorem gone_any(p c:Nat)(s:Value)(bs:List Nat)(w:World)(h:St w p s bs c):
  Calls Tryz.prog 74 #[.pointer (some ⟨p,0,none⟩)] w fun e w'=>e=.returned (.int .i64 (c:Nat))∧w'=w:=by
 have hcc:=h.cc
 clear h
 go_enter Tryz.func74,Tryz.ntmps74
 go_wp2
 go_ret
 exact⟨rfl,rfl⟩

theorem back_bad(p c:Nat)(n:Int)(s:Value)(bs:List Nat)(w:World)(h:St w p s bs c)(hn:n<0∨(c:Int)<n):
  Calls Tryz.prog 165 #[.pointer (some ⟨p,0,none⟩),.int .i64 n] w fun e w'=>e=.returned (.int .i64 1)∧w'=w:=by
 have hcc:=h.cc
 clear h
 by_cases h0:n<0
 ·clear hn
  go_enter Tryz.func165,Tryz.ntmps165
  go_wp2
  go_ret
  exact⟨rfl,rfl⟩
 ·have h1:(c:Int)<n:=by omega
  clear hn
  go_enter Tryz.func165,Tryz.ntmps165
  go_wp2
  go_ret
  exact⟨rfl,rfl⟩

theorem back_good(p c n:Nat)(s:Value)(bs:List Nat)(w:World)(h:St w p s bs c)(hn:n≤c)(hc:c≤1000000000000):
  Calls Tryz.prog 165 #[.pointer (some ⟨p,0,none⟩),.int .i64 (n:Nat)] w fun e w'=>e=.returned (.int .i64 0)∧St w' p s bs (c-n)∧Kept (·=p) w w':=by
 have hcc:=h.cc
 have hfc:=h.fc
 have HS:Hid (St w p s bs c):=h
 clear h
 go_enter Tryz.func165,Tryz.ntmps165
 go_wp2
 go_ret
 refine⟨rfl,?_,(Kept.refl _ w).setCell _ _ (.inl rfl)⟩
 have:=HS.out.setCount (c-n)
 rw[show((c-n:Nat):Int)=(c:Int)-(n:Int)by omega]at this
 exact this

theorem ralign_any(p c:Nat)(s:Value)(bs:List Nat)(w:World)(h:St w p s bs c)(hc:c≤1000000000000):
  Calls Tryz.prog 77 #[.pointer (some ⟨p,0,none⟩)] w fun e w'=>e=.returned (.int .i64 0)∧St w' p s bs ((c+7) / 8*8)∧Kept (·=p) w w':=by
 have hcc:=h.cc
 have hfc:=h.fc
 have HS:Hid (St w p s bs c):=h
 clear h
 go_enter Tryz.func77,Tryz.ntmps77
 go_wp2
 go_ret
 refine⟨rfl,?_,(Kept.refl _ w).setCell _ _ (.inl rfl)⟩
 have:=HS.out.setCount ((c+7) / 8*8)
 rw[show(((c+7) / 8*8:Nat):Int)=((c:Int)+8-1) / 8*8 by omega]at this
 exact this

set_option maxHeartbeats 400000 in
theorem take_end(p c n:Nat)(s:Value)(bs:List Nat)(w:World)(h:St w p s bs c)(hc:c≤8*bs.length)(hlen:bs.length≤100000000000)(hn:n≤32)(hm:8*bs.length<c+n):
  Calls Tryz.prog 70 #[.pointer (some ⟨p,0,none⟩),.int .i64 (n:Nat)] w fun e w'=>e=.returned (.tuple #[.int .u32 0,.int .i64 10])∧∃m,w'=w.drewN m:=by
 have hd:decide (0≤(n:Int)∧(n:Int)≤32)=true:=by simp;omega
 have hh:((8*bs.length-c:Nat):Int)<(n:Int):=by omega
 have HC:=left_any p c s bs w h hc hlen
 obtain⟨q,hq⟩:∃q,q=8*bs.length-c:=⟨_,rfl⟩
 rw[←hq]at HC hh
 clear h hc hlen hm hq
 go_enter Tryz.func70,Tryz.ntmps70
 go_wp2_with (first | (go_at_call 82;refine(fits_any _ _).mono ?_;rintro e w' ⟨rfl,rfl⟩;rw[hd]) | (go_at_call 108;refine HC.mono ?_;rintro e w' ⟨rfl,mq,rfl⟩))
 go_ret2
 exact⟨rfl,_,rfl⟩

set_option maxHeartbeats 400000 in
theorem take_good(p c n:Nat)(s:Value)(bs:List Nat)(w:World)(h:St w p s bs c)(hlen:bs.length≤100000000000)(hn:n≤32)(hm:c+n≤8*bs.length):
  Calls Tryz.prog 70 #[.pointer (some ⟨p,0,none⟩),.int .i64 (n:Nat)] w fun e w'=>e=.returned (.tuple #[.int .u32 (n256 bs / 2 ^ c % 2 ^ n:Nat),.int .i64 0]) ∧
   St w' p s bs (c+n)∧Kept (·=p) w w':=by
 have hd:decide (0≤(n:Int)∧(n:Int)≤32)=true:=by simp;omega
 have hh:¬((8*bs.length-c:Nat):Int)<(n:Int):=by omega
 have HC:=left_any p c s bs w h (by omega) hlen
 have HD:=fun m=>cut_any (w.drewN m) p s bs c n (h.drewN m) hn hm hlen
 obtain⟨q,hq⟩:∃q,q=8*bs.length-c:=⟨_,rfl⟩
 rw[←hq]at HC hh
 clear h hlen hm hq
 go_enter Tryz.func70,Tryz.ntmps70
 go_wp2_with (first | (go_at_call 82;refine(fits_any _ _).mono ?_;rintro e w' ⟨rfl,rfl⟩;rw[hd]) | (go_at_call 108;refine HC.mono ?_;rintro e w' ⟨rfl,mq,rfl⟩) | (go_at_call 109;refine(HD mq).mono ?_;rintro e w' ⟨rfl,hs',hk'⟩))
 go_ret2
 exact⟨rfl,hs',⟨hk'.os,hk'.tape,hk'.output,hk'.size,hk'.block⟩⟩

set_option maxHeartbeats 400000 in
theorem newReader_any(v:Value)(I:Nat→Prop)(cs:List Nat)(w:World)(h:Src w I v cs)(hlen:cs.length≤100000000000)(hb:∀b∈cs,b<256):
  Calls Tryz.prog 69 #[v] w fun e w'=>∃p s,e=.returned (.pointer (some ⟨p,0,none⟩))∧St w' p s cs 0∧Kept (fun _=>False) w w'∧(∀k,Fp p s k→w.heap.size≤k):=by
 obtain⟨ao,cap,rfl,hsrc⟩:=id h
 have HS:Hid (Src w I (.slice ao cs.length cap) cs):=h
 clear h hsrc
 go_enter Tryz.func69,Tryz.ntmps69
 go_wp2_with (first | (at_make;refine wpList_make_bytes _ rfl _ _ rfl _ _ _ _ cs.length rfl rfl rfl rfl (by omega) ?_;intro w1 hr1 hg1 hs1;have HR:Hid (Row w1 (.slice (some ⟨w.heap.size,0,none⟩) cs.length cs.length) (List.replicate cs.length 0)):=hr1;have HK:Hid (Kept (fun _=>False) w w1):=(Kept.refl _ w).grown hg1 (by simp);clear hr1 hg1) | (with_reducible refine atCopy ?_;refine wpList_copy_bytes _ rfl (.tmp 12) (.tmp 13) rfl w.heap.size cs.length cs.length ao cs.length cap (List.replicate cs.length 0) cs I rfl rfl (World.ownsRow.alloc HR.out _) (HS.out.kept (HK.out.alloc _) (fun _ _ _ h=>h)) (by simp) ?_;intro w2 hr2 hg2 hs2))
 go_ret
 have hk2:Kept (·=w.heap.size) (w1.alloc (.cells #[.slice (some ⟨w.heap.size,0,none⟩) cs.length cs.length,.int .i64 0] 141)) w2:=(Kept.refl _ _).grown hg2 (fun k e=>.inl (by simpa using e.symm))
 have hne:¬w1.heap.size=w.heap.size:=by omega
 refine⟨w1.heap.size,.slice (some ⟨w.heap.size,0,none⟩) cs.length cs.length,rfl,⟨hk2.cell (by simp) hne,hk2.cell (by simp) hne,(hk2.frozen (by simp) hne).trans (by simp),(hk2.frozen (by simp) hne).trans (by simp),?_,by simp[Value.ownBlock];omega,hb⟩,?_,?_⟩
 ·simpa using hr2
 ·exact Kept.trans (H:=fun _=>False) (HK.out.alloc _) hk2 (fun _ _ h=>h) (fun x hx e=>by omega)
 ·intro k hk
  rcases hk with rfl | hk
  ·exact HK.out.size
  ·simp[Value.ownBlock]at hk;omega

set_option maxHeartbeats 400000 in
theorem wbytes_any(p X c:Nat)(s:Value)(w:World)(h:Wr w p s X c)(hc:c≤100000000000):
  Calls Tryz.prog 57 #[.pointer (some ⟨p,0,none⟩)] w fun e w'=>∃g bs,e=.returned (.slice (some ⟨g,0,none⟩) bs.length bs.length)∧Row w' (.slice (some ⟨g,0,none⟩) bs.length bs.length) bs∧(∀b∈bs,b<256) ∧
   n256 bs=X∧bs.length=(c+7) / 8∧Kept (fun _=>False) w w'∧w.heap.size≤g:=by
 obtain⟨bs,hst,hX,hlo,hhi⟩:=h.ex
 obtain⟨ao,cap,hv,_⟩:=hst.row.shape
 have hcb:=hst.cb
 have hcb1:∀w1,Kept (fun _=>False) w w1→w1.cell? ⟨p,0,none⟩=some (.slice ao bs.length cap):=fun w1 hk=>hk.cell (by rw[hcb,hv]) (fun h=>h)
 rw[hv]at hcb
 have HS:Hid (Src w (fun k=>(Value.slice ao bs.length cap).ownBlock=some k) (.slice ao bs.length cap) bs):=by have:=Src.ofRow hst.row;rw[hv]at this;exact this
 have HB:Hid (∀b∈bs,b<256):=hst.byte
 have HX:Hid (n256 bs=X):=hX
 have hlen:bs.length≤100000000000:=by omega
 have HL:Hid (bs.length=(c+7) / 8):=by show _=_;omega
 clear h hst hX hlo hhi hc hv
 go_enter Tryz.func57,Tryz.ntmps57
 go_wp2_with (first | (at_make;refine wpList_make_bytes _ rfl _ _ rfl _ _ _ _ bs.length rfl rfl rfl rfl (by omega) ?_;intro w1 hr1 hg1 hs1;have HR:Hid (Row w1 (.slice (some ⟨w.heap.size,0,none⟩) bs.length bs.length) (List.replicate bs.length 0)):=hr1;have HK:Hid (Kept (fun _=>False) w w1):=(Kept.refl _ w).grown hg1 (by simp);have hcb2:=hcb1 w1 HK.out;clear hr1 hg1) | (with_reducible refine atCopy ?_;refine wpList_copy_bytes _ rfl (.tmp 12) (.tmp 16) rfl w.heap.size bs.length bs.length ao bs.length cap (List.replicate bs.length 0) bs _ rfl rfl HR.out (HS.out.kept HK.out (fun _ _ _ h=>h)) (by simp) ?_;intro w2 hr2 hg2 hs2))
 go_ret
 refine⟨w.heap.size,bs,rfl,by simpa using hr2,HB.out,HX.out,HL.out,?_,Nat.le_refl _⟩
 refine HK.out.grown hg2 (fun k e=>.inr ?_)
 simp at e;omega

set_option maxHeartbeats 400000 in
theorem keepBytes_any(va vb:Value)(I J:Nat→Prop)(xs ys:List Nat)(w:World)(ha:Src w I va xs)(hb:Src w J vb ys)(hx:xs.length≤1000000000000)(hy:ys.length≤1000000000000):
  Calls Tryz.prog 13 #[va,vb] w fun e w'=>e=.returned (.bool (decide (xs=ys)))∧∃m,w'=w.drewN m:=by
 obtain⟨ao,ca,rfl,hsa⟩:=id ha
 obtain⟨bo,cb,rfl,hsb⟩:=id hb
 clear ha hb
 by_cases hl:xs.length=ys.length
 ·have HL:Hid (xs.length=ys.length):=hl
  have hd:((xs.length:Int) != (ys.length:Int))=false:=by simp[hl]
  clear hl
  go_enter Tryz.func13,Tryz.ntmps13
  go_wp2
  clear hd
  go_loopg [5] xs.length (fun k i wr=>∃j:Nat,j≤xs.length∧xs.length-j≤k∧i=.int .i64 j∧(∃m,wr=w.drewN m)∧xs.take j=ys.take j)
  case atStart=>exact⟨0,by omega,by omega,rfl,⟨0,rfl⟩,by simp⟩
  case round=>
   obtain⟨j,hj,hjk,rfl,⟨m,rfl⟩,ht⟩:=hrel
   have HT:Hid (xs.take j=ys.take j):=ht
   clear ht
   by_cases hlt:j<xs.length
   ·have hlt2:j<ys.length:=by have:=HL.out;omega
    obtain⟨a,oa,rfl,_,hca⟩:=hsa (by intro e;rw[e]at hlt;simp at hlt)
    obtain⟨b,ob,rfl,_,hcb⟩:=hsb (by intro e;rw[e]at hlt2;simp at hlt2)
    have hc1:=hca j hlt
    have hc2:=hcb j hlt2
    obtain⟨x,hx1⟩:∃x,x=xs[j]:=⟨_,rfl⟩
    obtain⟨y,hy1⟩:∃y,y=ys[j]:=⟨_,rfl⟩
    rw[←hx1]at hc1
    rw[←hy1]at hc2
    have HX:Hid (x=xs[j]):=hx1
    have HY:Hid (y=ys[j]):=hy1
    clear hca hcb hsa hsb hx1 hy1
    by_cases he:x=y
    ·have hd:((x:Int) != (y:Int))=false:=by simp[he]
     have HE:Hid (x=y):=he
     clear he
     go_wp2
     go_quiet (fail)
     go_wp2
     go_roundg (gk-1)
     case measure=>omega
     case rel=>exact⟨j+1,by omega,by omega,by go_num,⟨_,rfl⟩,by rw[List.take_succ_eq_append_getElem hlt,List.take_succ_eq_append_getElem hlt2,HT.out,←HX.out,←HY.out,HE.out]⟩
    ·have hd:((x:Int) != (y:Int))=true:=by simp;omega
     go_wp2
     go_quiet (fail)
     go_wp2
     go_ret
     refine⟨?_,_,drewN_add _ _ _⟩
     have:¬xs=ys:=by intro e;subst e;exact he (HX.out.trans HY.out.symm)
     simp[this]
   ·clear hsa hsb
    go_wp2
    go_ret
    refine⟨?_,_,rfl⟩
    have h1:=HT.out
    have h2:=HL.out
    rw[List.take_of_length_le (by omega),List.take_of_length_le (by omega)]at h1
    simp[h1]
 ·have hd:((xs.length:Int) != (ys.length:Int))=true:=by simp;omega
  have HL:Hid (¬xs.length=ys.length):=hl
  clear hl
  go_enter Tryz.func13,Tryz.ntmps13
  go_wp2
  go_ret
  have:¬xs=ys:=by intro e;exact HL.out (by rw[e])
  exact⟨by simp[this],0,rfl⟩

end Go.Proofs.YtggcbnhckcenmaaGreatDoor

namespace Go.Proofs.YtggcbnhckcenmaaGreatDoor
open Go.RowKit

structure Grows(w w':World)(v v':Value)(bs:List Nat):Prop where
 row:Row w' v' bs
 kept:Kept (fun k=>v.ownBlock=some k) w w'
 own:Grew w v v'

theorem Grows.refl{w:World}{v:Value}{bs:List Nat}(h:Row w v bs):Grows w w v v bs:=⟨h,Kept.refl _ _,.inl rfl⟩

theorem Grows.app{w wr w1:World}{v v1 v':Value}{bs:List Nat}{x:Nat}{o:Obj}(h:Grows w wr v v1 bs)(hrow:Row w1 v' (bs++[x]))(hg:(wr.alloc o).grownBy w1 v1.ownBlock)(ho:v'.ownBlock=v1.ownBlock∨v'.ownBlock=some (wr.alloc o).heap.size):Grows w w1 v v' (bs++[x]):=by
 have hsz:=h.kept.size
 refine⟨hrow,?_,?_⟩
 ·refine Kept.grown (h.kept.alloc o) hg (fun k e=>?_)
  rcases h.own with e' | e'
  ·exact .inl (by rw[←e',e])
  ·exact .inr (e' k e)
 ·rcases ho with e | e
  ·rcases h.own with e' | e'
   ·exact .inl (by rw[e,e'])
   ·exact .inr (fun k hk=>e' k (by rw[←e,hk]))
  ·refine .inr (fun k hk=>?_)
   rw[e]at hk
   simp at hk
   omega

end Go.Proofs.YtggcbnhckcenmaaGreatDoor

namespace Go.Proofs.YtggcbnhckcenmaaGreatDoor
open Go.RowKit

theorem Grows.ofNil{w wr:World}{v v':Value}{bs:List Nat}(h:Grows w wr v v' bs)(hv:v.ownBlock=none):Kept (fun _=>False) w wr∧∀k,v'.ownBlock=some k→w.heap.size≤k:=by
 refine⟨h.kept.mono (fun x _ e=>by rw[hv]at e;cases e),fun k hk=>?_⟩
 rcases h.own with e | e
 ·rw[e,hv]at hk;cases hk
 ·exact e k hk

end Go.Proofs.YtggcbnhckcenmaaGreatDoor

namespace Go.Proofs.YtggcbnhckcenmaaGreatDoor
open Go.RowKit

set_option maxHeartbeats 2000000 in
theorem refOf_any(w:World)(v:Value)(I:Nat→Prop)(cs:List Nat)(hsrc:Src w I v cs)(hlen:cs.length≤100000000)(hb:∀b∈cs,b<256):
  Calls Tryz.prog 98 #[v] w fun e w'=>∃v',e=.returned v'∧Grows w w' (.slice none 0 0) v' (ofBytes cs):=by
 obtain⟨ao,cap,rfl,_⟩:=id hsrc
 have HS:Hid (Src w I (.slice ao cs.length cap) cs):=hsrc
 have HB:Hid (∀b∈cs,b<256):=hb
 clear hsrc hb
 go_enter Tryz.func98,Tryz.ntmps98
 go_wp2
 go_loopg [3,4] cs.length (fun k x y wr=>∃j:Nat,j≤cs.length∧cs.length-j≤k∧y=.int .i64 (j:Nat)∧Grows w wr (.slice none 0 0) x (ofBytes (cs.take j)))
 case atStart=>exact⟨0,by omega,by omega,rfl,Grows.refl (World.ownsRow_nil _ _ _ _)⟩
 case round=>
  obtain⟨j,hj,hjk,rfl,hg⟩:=hrel
  have HG:Hid (Grows w wr (.slice none 0 0) u3 (ofBytes (cs.take j))):=hg
  have hk0:=(hg.ofNil rfl).1
  have HS2:Hid (Src wr I (.slice ao cs.length cap) cs):=HS.out.kept hk0 (fun _ _ _ e=>e)
  clear hg hk0
  by_cases hlt:j<cs.length
  ·obtain⟨b,o,rfl,_,hcell⟩:∃b o,ao=some ⟨b,o,none⟩∧True∧wr.cell? ⟨b,o+j,none⟩=some (.int .u8 (cs[j]:Nat)):=by
    obtain⟨ao',cap',e1,e2⟩:=HS2.out
    injection e1 with e3 _ _
    subst e3
    obtain⟨b,o,e4,_,e5⟩:=e2 (by intro e;rw[e]at hlt;simp at hlt)
    exact⟨b,o,e4,trivial,e5 j hlt⟩
   obtain⟨x,hx⟩:∃x,x=cs[j]:=⟨_,rfl⟩
   have hx2:x<256:=by rw[hx];exact HB.out _ (List.getElem_mem _)
   rw[←hx]at hcell
   have HX:Hid (ofBytes (cs.take (j+1))=ofBytes (cs.take j)++bitsOf x 8):=by
    show _=_
    rw[List.take_succ_eq_append_getElem hlt,ofBytes_append,hx];simp[ofBytes]
   obtain⟨ps,hps⟩:∃ps,ps=ofBytes (cs.take j):=⟨_,rfl⟩
   have hpl:ps.length≤800000000:=by rw[hps,ofBytes_length,List.length_take];omega
   have HG2:Hid (Grows w wr (.slice none 0 0) u3 ps):=by rw[hps];exact HG.out
   have HX2:Hid (ofBytes (cs.take (j+1))=ps++bitsOf x 8):=by rw[hps];exact HX.out
   clear hx hps HG HX
   obtain⟨g0,hg0⟩:∃g0,g0=gk:=⟨_,rfl⟩
   subst hg0
   go_wp2_with fail
   go_loopg [3,5,6] 8 (fun k x3 x5 x6 wx=>∃t u:Nat,t≤8∧8-t≤k∧x6=.int .i64 (t:Nat)∧x5=.int .u8 (u:Nat)∧u=x / 2 ^ t∧Grows w wx (.slice none 0 0) x3 (ps++bitsOf x t))
   case atStart=>exact⟨0,x,by omega,by omega,rfl,rfl,by simp,by simpa[bitsOf]using HG2.out⟩
   case round=>
    obtain⟨t,u,ht,htk,rfl,rfl,hu,hg⟩:=hrel
    have HU:Hid (u=x / 2 ^ t):=hu
    have hu2:u<256:=by rw[hu];exact Nat.lt_of_le_of_lt (Nat.div_le_self _ _) hx2
    have HG3:Hid (Grows w wr (.slice none 0 0) u3 (ps++bitsOf x t)):=hg
    have HL2:Hid ((ps++bitsOf x t).length+[u % 2].length≤1000000000000):=by show _≤_;rw[List.length_append,bitsOf_length];simp;omega
    clear hu hg HG2 hcell
    by_cases hlt2:t<8
    ·go_wp2_with (at_builtin;refine wpList_append_row _ rfl (.tmp 21) (.tmp 24) rfl u3 (ps++bitsOf x t) rfl (World.ownsRow.alloc HG3.out.row _) ⟨wr.heap.size,0,none⟩ 1 1 [u % 2] rfl rfl (bytesAt_int _ _ _ (by omega)) HL2.out ?_)
     intro v' w1 hrow hgr hv'
     have R:Hid (Grows w w1 (.slice none 0 0) v' (ps++bitsOf x (t+1))):=by
      have h:=HG3.out.app (x:=u % 2) (by rw[List.append_assoc];exact hrow) hgr (by simpa using hv')
      rw[List.append_assoc,HU.out]at h
      exact h
     clear hrow hgr hv' HL2
     go_wp2_with fail
     go_roundg (gk-1)
     case measure=>omega
     case rel=>exact⟨t+1,u / 2,by omega,by omega,by go_num,by go_num,by rw[HU.out,Nat.div_div_eq_div_mul,←Nat.pow_succ],R.out⟩
    ·have ht8:t=8:=by omega
     subst ht8
     clear HL2
     go_wp2_with fail
     go_roundg (g0-1)
     case measure=>omega
     case rel=>exact⟨j+1,by omega,by omega,by go_num,by rw[HX2.out];exact HG3.out⟩
  ·have hjl:j=cs.length:=by omega
   go_wp2_with fail
   go_ret
   have h:=HG.out
   rw[List.take_of_length_le (by omega)]at h
   exact⟨_,rfl,h⟩

set_option maxHeartbeats 1000000 in
theorem refNumber_any(w:World)(v:Value)(I:Nat→Prop)(ls:List Nat)(hsrc:Src w I v ls)(hb:∀b∈ls,b<2)(a n:Nat)(hn:n≤32)(hl:a+n≤ls.length)(hlen:ls.length≤1000000000000):
  Calls Tryz.prog 133 #[v,.int .i64 (a:Nat),.int .i64 (n:Nat)] w fun e w'=>e=.returned (.int .u32 (n2 ls / 2 ^ a % 2 ^ n:Nat))∧w'=w:=by
 obtain⟨ao,cap,rfl,hsa⟩:=id hsrc
 rw[←n2_part ls hb a n hl]
 have HSA:Hid (ls≠[]→∃b o,ao=some ⟨b,o,none⟩∧I b∧∀j (_:j<ls.length),w.cell? ⟨b,o+j,none⟩=some (.int .u8 (ls[j]:Nat))):=hsa
 have HB:Hid (∀b∈ls,b<2):=hb
 obtain⟨R,hR⟩:∃R,R=n2 ((ls.drop a).take n):=⟨_,rfl⟩
 rw[←hR]
 have HR:Hid (R=n2 ((ls.drop a).take n)):=hR
 clear hsrc hsa hb hR
 go_enter Tryz.func133,Tryz.ntmps133
 go_wp2
 go_loopg [7,8] n (fun k x y wr=>∃(i X:Nat),i≤n∧i≤k∧y=.int .i64 ((i:Int)-1)∧x=.int .u32 (X:Nat)∧X=n2 ((ls.drop (a+i)).take (n-i))∧wr=w)
 case atStart=>exact⟨n,0,by omega,by omega,rfl,rfl,by simp[n2],rfl⟩
 case round=>
  obtain⟨i,X,hi,hik,rfl,rfl,hX,rfl⟩:=hrel
  have HX:Hid (X=n2 ((ls.drop (a+i)).take (n-i))):=hX
  by_cases h0:i=0
  ·have H0:Hid (i=0):=h0
   have hneg:(i:Int)-1<0:=by omega
   clear hX h0
   go_wp2
   go_ret
   refine⟨?_,rfl⟩
   have:X=R:=by rw[HX.out,HR.out,H0.out];simp
   subst this
   rfl
  ·obtain⟨t,ht⟩:∃t,i=t+1:=⟨i-1,by omega⟩
   subst ht
   have hat:a+t<ls.length:=by omega
   obtain⟨b,o,rfl,_,hcell⟩:=HSA.out (by intro e;rw[e]at hat;simp at hat)
   have hc:=hcell (a+t) hat
   obtain⟨x,hx⟩:∃x,x=ls[a+t]:=⟨_,rfl⟩
   have hx2:x<2:=by rw[hx];exact HB.out _ (List.getElem_mem _)
   rw[←hx]at hc
   have hXb:X<2147483648:=by
    rw[hX]
    exact Nat.lt_of_lt_of_le (n2_take_lt ls HB.out _ _) (Nat.le_trans (Nat.pow_le_pow_right (by omega) (show n-(t+1)≤31 by omega)) (by decide))
   have HN:Hid (2*X+x=n2 ((ls.drop (a+t)).take (n-t))):=by
    show _=_
    rw[show n-t=(n-(t+1))+1 by omega,List.drop_eq_getElem_cons hat,List.take_succ_cons,n2,←hx,hX,show a+t+1=a+(t+1)by omega]
    omega
   clear hX hcell hx
   go_wp2
   go_roundg t
   case measure=>omega
   case rel=>exact⟨t,2*X+x,by omega,by omega,by go_num,by go_num,HN.out,rfl⟩

end Go.Proofs.YtggcbnhckcenmaaGreatDoor
