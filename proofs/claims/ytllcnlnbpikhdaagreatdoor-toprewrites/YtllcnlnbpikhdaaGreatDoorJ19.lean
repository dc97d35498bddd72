import Derived.RangeFuncBox
import Derived.Laws.BitsAllLaws
import Derived.RangeFuncLeaves
import Derived.Shelf.Abstract
import Derived.WalkKit
import Derived.OwnWalkIn
import Derived.TacticsInMore
import Derived.LoopNIn
import Derived.LoopIn
import Derived.WalkLawsBesides
import Derived.Test.YtllcnlnbpikhdaaGreatDoorJ3
set_option maxHeartbeats 2000000
set_option maxRecDepth 100000
namespace Go.Proofs.YtllcnlnbpikhdaaGreatDoor
open Go.RowKit Go.Shelf
attribute [local go_sem] Oper.semAt_some
abbrev rp:=Nat×Fin 256
def AW(x:rp):Array Value:=#[.int .i64 (x.1:Int),.int .u8 (x.2.val:Int)]
def upto(f:Nat->rp)(k:Nat):List rp:=(List.range k).map f
theorem nR(f:Nat->rp)(k:Nat):upto f (k+1)=upto f k++[f k]:=by simp[upto,List.range_succ]
theorem vU(f:Nat->rp)(k:Nat):(upto f k).length=k:=by simp[upto]
def Holds(n₀ B:Nat)(W W':World):Prop:=Below n₀ W W'/\W'.heap[B]? = W.heap[B]?
theorem Holds.trans{n₀ B:Nat}{X Y Z:World}(h:Holds n₀ B X Y)(k:Holds n₀ B Y Z):Holds n₀ B X Z:=⟨h.1.trans k.1,k.2.trans h.2⟩
theorem Holds.put{n₀ B:Nat}{w:World}(hn:n₀<=w.heap.size)(hB:B<w.heap.size)(W:World)(l:Nat)(o o':Obj)(hl:w.heap.size<=l)(h:W.heap[l]? = some o)(h1:o.isCells=false)(h2:o.isWalk=false):Holds n₀ B W (W.putObj l o'):=by have hlt:=(Array.getElem?_eq_some_iff.1 h).1;exact⟨belowK_b hn W l o o' hl h h1 h2,(grownBy_putObj' W l o').block B (by omega) (λe=>by cases e;omega)⟩
theorem Holds.set{n₀ B:Nat}{W:World}(p:Addr)(v:Value)(h1:n₀<=p.block)(h2:B≠p.block):Holds n₀ B W (W.setCell p v):=
 ⟨(Below.refl n₀ W).setCell (p:=p) h1 v,Below.heap_setCell _ _ _ _ (λe=>h2 e)⟩
theorem FM(F:Fence)(n:Nat)(h7:F.fn 160)(kS:F.round=none)(hn:1≤n)(l Bs n₀ b off len cap:Nat)(f:Nat→Fin 256)(Hj:len≤100000000)(hb:b<n₀)(J Jx:List rp→World→Prop)
  (hY:∀pre x W,J pre W->pre.length<len->YieldAt F (n-1) Tryz.prog l (AW x) W λe W'=>
   (e=.returned (.bool true)/\J (pre++[x]) W'/\Holds n₀ Bs W W')\/(e=.returned (.bool false)/\Jx (pre++[x]) W'))
  (W:World) (O5:W.cell? ⟨Bs,0,none⟩=some (.slice (some ⟨b,off,none⟩) len cap)) (hc:∀j,j<len->W.cell? ⟨b,off+j,none⟩=some (.int .u8 ((f j).val:Int))) (h0:J [] W):
  CallsIn F n Tryz.prog 160 #[.func (.yield l) #[] #[],.pointer (some ⟨Bs,0,none⟩)] W λe W'=>(∃v,e=.returned v) /\
   ((∃ys,ys=upto (λj=>(len-1-j,f (len-1-j))) len/\J ys W')\/(∃pre,(∃k,k<=len/\pre=upto (λj=>(len-1-j,f (len-1-j))) k)/\Jx pre W')):=by
 refine callsIn_of_wp Tryz.func160 rfl h7 ?_ kS;simp only[Tryz.ntmps160,List.size_toArray,List.length_cons,List.length_nil,Nat.reduceAdd,Nat.reduceSub,Array.replicate_succ,Array.replicate_zero,List.push_toArray,List.append_toArray,List.nil_append,List.cons_append];gi_wp2;gi_loopw [3] (λi wr=>∃k:Nat,k<=len/\i=.int .i64 ((len:Int)-1-k)/\J (upto (λj=>(len-1-j,f (len-1-j))) k) wr/\Holds n₀ Bs W wr)
  (λi _=>(intOf i+1).toNat)
 case atStart=>exact⟨0,Nat.zero_le _,by simp,h0,Below.refl _ _,rfl⟩
 case round=>
  obtain⟨k,hk,rfl,D7,hnx⟩:=hrel;have Qe:=(World.cell?_of_block (a:=⟨Bs,0,none⟩) hnx.2).trans O5;by_cases hlt:k<len
  ·obtain⟨m,hm⟩:∃m,m=len-1-k:=⟨_,rfl⟩
   have g8:(len:Int)-1-k=(m:Nat):=(by omega);obtain⟨fn,tmps,assign,body,hy,hR⟩:=hY _ (m,f m) wr D7 (by rw[vU];exact hlt);have qZ:wr.cell? ⟨b,off+m,none⟩=some (.int .u8 ((f m).val:Int)):=(hnx.1.cell (p:=⟨b,off+m,none⟩) hb).trans (hc m (by omega));unfold AW at hy;dsimp only at hy;rw[g8];have Lw:m<len:=(by omega);have HM:Hid (m=len-1-k):=hm;clear hm g8;gi_wp2;refine hR.mono ?_;rintro e W3 (⟨rfl,Ea,hk3⟩ | ⟨rfl,Se⟩)
   ·gi_wp2
    go_roundw
    case rel=>exact⟨k+1,by omega,by have:=HM.out;simp;omega,by rw[nR,<-HM.out];exact Ea,hnx.trans hk3⟩
    case measure=>simp[intOf]
   ·gi_wp2
    refine bodyPost_ret (results_none rfl _ _ _) rfl ?_;exact⟨⟨_,rfl⟩,.inr ⟨_,⟨k+1,by omega,by rw[nR,<-HM.out]⟩,Se⟩⟩
  ·obtain rfl:k=len:=by omega
   gi_wp2
   go_end0;exact⟨⟨_,rfl⟩,.inl ⟨_,rfl,D7⟩⟩
theorem uR(F:Fence)(n:Nat)(h5:F.fn 128)(kS:F.round=none)(a:Option Addr)(len cap:Nat)(w:World):
  CallsIn F n Tryz.prog 128 #[.slice a len cap] w λe w'=>e=.returned (.func (.func 160) #[] #[.pointer (some ⟨w.heap.size,0,none⟩)])/\w'=w.alloc (.cells #[.slice a len cap] 22):=by
 refine callsIn_of_wp Tryz.func128 rfl h5 ?_ kS;simp only[Tryz.ntmps128,List.size_toArray,List.length_cons,List.length_nil,Nat.reduceAdd,Nat.reduceSub,Array.replicate_succ,Array.replicate_zero,List.push_toArray,List.append_toArray,List.nil_append,List.cons_append];gi_wp2;go_ret;exact⟨rfl,rfl⟩
theorem yN(F:Fence)(n:Nat)(h7:F.fn 160)(kS:F.round=none)(hn:1≤n)(Bs n₀ b off len cap:Nat)(f:Nat→Fin 256)(Hj:len≤100000000)(w:World)(O5:Bs<w.heap.size)(hn₀:n₀≤w.heap.size)(hb:b<n₀)
  (hc:w.cell? ⟨Bs,0,none⟩=some (.slice (some ⟨b,off,none⟩) len cap)) (hI:∀j,j<len->w.cell? ⟨b,off+j,none⟩=some (.int .u8 ((f j).val:Int))):
  SeqStopsK F n Tryz.prog 160 #[.pointer (some ⟨Bs,0,none⟩)] AW (Holds n₀ Bs) (λys=>ys=upto (λj=>(len-1-j,f (len-1-j))) len)
   (λpre=>∃k,k<=len/\pre=upto (λj=>(len-1-j,f (len-1-j))) k) len w:=λl J Jx W hW _ _ hY h0=>by
 have Er:=(hW.cell (p:=⟨Bs,0,none⟩) O5).trans hc;exact FM F n h7 kS hn l Bs n₀ b off len cap f Hj hb J Jx hY W Er (λj hj=>(hW.cell (p:=⟨b,off+j,none⟩) (Nat.lt_of_lt_of_le hb hn₀)).trans (hI j hj)) h0
def uw(pre:List rp):Nat:=pre.foldl (λv p=>v*256 % 18446744073709551616+p.2.val) 0
theorem qh(pre:List rp)(x:rp):uw (pre++[x])=uw pre*256 % 18446744073709551616+x.2.val:=by simp[uw]
theorem Lm(v x:Nat)(hx:x<256):(v*256 % 18446744073709551616) ||| x=v*256 % 18446744073709551616+x:=by
 have e:v*256 % 18446744073709551616=2 ^ 8*(v % 72057594037927936):=by omega
 rw[e,<-Nat.two_pow_add_eq_or_of_lt (i:=8) hx]
theorem KZ(pre:List rp):uw pre<18446744073709551616:=by
 rcases List.eq_nil_or_concat pre with rfl | ⟨es,x,e⟩
 ·simp[uw]
 ·subst e;rw[List.concat_eq_append,qh];have:=x.2.isLt;omega
theorem K6(F:Fence)(m:Nat)(h3:F.fn 91)(h5:F.fn 128)(h7:F.fn 160)(kS:F.round=none)(hm:3≤m)(w:World)(b o len cap at' n:Nat)(f:Nat→Fin 256)
  (hI:∀j,j<len->w.cell? ⟨b,o+j,none⟩=some (.int .u8 ((f j).val:Int))) (ag:len<=100000000) (cj:len<=cap) (hn:n<=8) (m6:0<n) (hat:at'+n<=len) (Iw:b<w.heap.size):
  CallsIn F m Tryz.prog 91 #[.slice (some ⟨b,o,none⟩) len cap,.int .i64 (at':Nat),.int .i64 (n:Nat)] w λe W'=>e=.returned (.tuple #[.int .u64 (uw (upto (λj=>(n-1-j,f (at'+(n-1-j)))) n):Nat),.int .i64 0])/\Below w.heap.size w W':=by
 have h1:1<=m:=by omega
 refine callsIn_of_wp_marks Tryz.func91 rfl h3 ?_ kS;simp only[Tryz.ntmps91,List.size_toArray,List.length_cons,List.length_nil,Nat.reduceAdd,Nat.reduceSub,Array.replicate_succ,Array.replicate_zero,List.push_toArray,List.append_toArray,List.nil_append,List.cons_append];gi_wp2_with (gi_at_call 128;refine(uR F (m-1) h5 kS _ _ _ _).mono ?_;rintro e w' ⟨rfl,rfl⟩);have bS:=Boxed.new w 86 (.int .u64 0);have bN:=Boxed.new (w.alloc (.cells #[.int .u64 0] 86)) 22 (.slice (some ⟨b,o+at',none⟩) n (cap-at'));rw[World.size_alloc]at bN;have hB0:Below w.heap.size w ((w.alloc (.cells #[.int .u64 0] 86)).alloc (.cells #[.slice (some ⟨b,o+at',none⟩) n (cap-at')] 22)):=((Below.refl _ w).alloc (Nat.le_refl _) _).alloc (by simp) _;have RT:∀j,j<n->((w.alloc (.cells #[.int .u64 0] 86)).alloc (.cells #[.slice (some ⟨b,o+at',none⟩) n (cap-at')] 22)).cell? ⟨b,o+at'+j,none⟩=some (.int .u8 ((f (at'+j)).val:Int)):=by intro j hj;rw[hB0.cell (p:=⟨b,o+at'+j,none⟩) Iw,Nat.add_assoc];exact hI (at'+j) (by omega)
 refine wpIn_rangeFunc_ownG kS h1 (gf:=160) (lb:=#[.pointer (some ⟨w.heap.size+1,0,none⟩)]) rfl h7 (enters_of Tryz.func160 (by kernel_rfl) rfl)
  (yN F (m-1) h7 kS (by omega) (w.heap.size+1) w.heap.size b (o+at') n (cap-at') (λj=>f (at'+j)) (by omega) _ (by simp) (by simp;omega) Iw bN.cell RT) Holds.trans (Holds.put (by simp;omega) (by simp)) (Below.refl _ _) (λ_=>rfl)
  (λpre W=>(W.cell? ⟨w.heap.size,0,none⟩=some (.int .u64 (uw pre:Nat))/\W.frozen? ⟨w.heap.size,0,none⟩=false)/\Below w.heap.size w W)
  (λ_ _ _=>False)
  (OwnFrom.and (Own.from (λs A B row hs hg hr=>⟨cell_kept hs.1 hg hr,(frozen_kept hs.1 hg hr).trans hs.2⟩) _) (ownFrom_below (Nat.le_refl _) (by simp;omega)))
  (λ_ _ _ _ _ hs _ _=>hs)
  ⟨⟨(bS.alloc _).cell,(bS.alloc _).frozen⟩,hB0⟩
  (λx=>{tmps:=#[.slice (some ⟨b,o,none⟩) len cap,.int .i64 (at':Nat),.int .i64 (n:Nat),undef,undef,undef,.int .u64 0,.int .i64 0,.pointer (some ⟨w.heap.size,0,none⟩),undef,.int .u8 (x.2.val:Int),.int .i64 (at':Nat),
   .bool (decide ((at':Int)<0)),.bool (decide ((at':Int)<0)),.int .i64 (at':Nat),.slice (some ⟨b,o,none⟩) len cap,.int .i64 (len:Nat),.int .i64 (n:Nat),.int .i64 ((len:Int)-(n:Int)),.bool (decide ((len:Int)-(n:Int)<(at':Int))),
   .bool (decide ((at':Int)<0) || decide ((len:Int)-(n:Int)<(at':Int))),.slice (some ⟨b,o,none⟩) len cap,.int .i64 (at':Nat),.int .i64 (at':Nat),.int .i64 (n:Nat),.int .i64 ((at':Int)+(n:Int)),
   .slice (some ⟨b,o+at',none⟩) n (cap-at'),.func (.func 160) #[] #[.pointer (some ⟨w.heap.size+1,0,none⟩)],.int .i64 (x.1:Int),.int .u8 (x.2.val:Int),undef,undef,undef,undef,undef,undef],defers:=[]}) ?assign ?body ?done ?stop
 case assign=>
  intro l x W K hK;unfold AW;gi_wp2;exact hK
 case body=>
  rintro l pre x W ⟨⟨hc,hf⟩,hB⟩ _;have rF:=x.2.isLt;have hal:=KZ pre;obtain⟨y,hy⟩:∃y,y=x.2.val:=⟨_,rfl⟩
  have HY:Hid (y=x.2.val):=hy;rw[<-hy]at rF ⊢;obtain⟨v,hv⟩:∃v,v=uw pre:=⟨_,rfl⟩
  have HV:Hid (v=uw pre):=hv;rw[<-hv]at hc hal;clear hy hv;gi_wp2;have e:bits .or .u64 (IntKind.u64.wrap ((v:Int)*256)) (y:Int)=((uw (pre++[x]):Nat):Int):=(by rw[IntKind.wrap_u64];have e1:(v:Int)*256 % 18446744073709551616=((v*256 % 18446744073709551616:Nat):Int):=(by omega);rw[e1,u64_or_nat _ _ (by omega) (by omega),Lm v y rF,qh,<-HV.out,<-HY.out]);rw[e];exact⟨(KeepsOthers.setCell _ _ _).from _,Holds.set _ _ (Nat.le_refl _) (by simp),⟨World.cell?_setCell_same' _ _ _ (by rw[hc];rfl),by rw[World.frozen?_setCell];exact hf⟩,hB.setCell (p:=⟨w.heap.size,0,none⟩) (Nat.le_refl _) _⟩
 case done=>
  rintro D ys W hD rfl ⟨⟨hc,_⟩,hB⟩ hK;gi_wp2;refine⟨by simp,.inl ⟨_,_,rfl,run_takeDeferred hK,?_⟩⟩;exact⟨_,results_tmp2 rfl _ _ _,rfl,hB.trans (belowK_b (w:=w) (Nat.le_refl _) W D _ _ (by simp at hD;omega) hK rfl rfl)⟩
 case stop=>
  rintro D c pre W _ _ h _;exact h.elim
theorem we(k a:Nat)(g:Nat->Nat):(List.range (k+1)).map (λj=>g (a+j))=g a::(List.range k).map (λj=>g (a+1+j)):=by rw[List.range_succ_eq_map];simp only[List.map_cons,List.map_map,Nat.add_zero,List.cons.injEq,true_and];apply List.map_congr_left;intro j _;simp only[Function.comp];congr 1;omega
theorem Gy(f:Nat→Fin 256)(a n:Nat)(hn:n≤8)(k:Nat)(hk:k≤n):
  uw (upto (λj=>(n-1-j,f (a+(n-1-j)))) k)=aN ((List.range k).map (λj=>(f (a+(n-k)+j)).val)):=by
 induction k with
 | zero=>rfl
 | succ k ih=>
  have e:=we k (a+(n-(k+1))) (λj=>(f j).val);rw[nR,qh,ih (by omega),e,aN];have hlt:aN ((List.range k).map (λj=>(f (a+(n-k)+j)).val))<256 ^ ((List.range k).map (λj=>(f (a+(n-k)+j)).val)).length:=(by apply mi;intro b hb;obtain⟨j,_,rfl⟩:=List.mem_map.1 hb;exact(f _).isLt);rw[List.length_map,List.length_range]at hlt;have UC:(256:Nat) ^ k<=256 ^ 7:=Nat.pow_le_pow_right (by omega) (by omega);have h7:(256:Nat) ^ 7=72057594037927936:=(by decide);have e1:a+(n-(k+1))+1=a+(n-k):=(by omega);have e2:a+(n-1-k)=a+(n-(k+1)):=(by omega);rw[e1];show aN _*256 % 18446744073709551616+(f (a+(n-1-k))).val=_;rw[e2];omega
def qr(cs:List Nat)(j:Nat):Fin 256:=⟨cs[j]?.getD 0 % 256,Nat.mod_lt _ (by decide)⟩
theorem qw(cs:List Nat)(hb:∀b∈cs,b<256)(j:Nat)(hj:j<cs.length):(qr cs j).val=cs[j]:=by simp only[qr,List.getElem?_eq_getElem hj,Option.getD_some];exact Nat.mod_eq_of_lt (hb _ (List.getElem_mem hj))
theorem zF(cs:List Nat)(hb:∀b∈cs,b<256)(a n:Nat)(h:a+n<=cs.length):(List.range n).map (λj=>(qr cs (a+j)).val)=(cs.drop a).take n:=by
 apply List.ext_getElem
 ·simp;omega
 ·intro i h1 h2;simp only[List.length_map,List.length_range]at h1;simp only[List.getElem_map,List.getElem_range,List.getElem_take,List.getElem_drop];exact qw cs hb _ (by omega)
theorem Fv(w:World)(v:Value)(I:Nat→Prop)(cs:List Nat)(hsrc:Src w I v cs)(ir:∀a n c,v=.slice a n c→n≤c)(hb:∀b∈cs,b<256)(ag:cs.length≤100000000)(a n:Nat)(hn:n≤8)(m6:0<n)(h:a+n≤cs.length):
  Calls Tryz.prog 91 #[v,.int .i64 (a:Nat),.int .i64 (n:Nat)] w λe w'=>e=.returned (.tuple #[.int .u64 (cP cs a n:Nat),.int .i64 0])/\Below w.heap.size w w':=by
 obtain⟨ao,cap,rfl,B6⟩:=hsrc;obtain⟨b,o,rfl,_,og⟩:=B6 (by intro e;rw[e]at h;simp at h;omega);have Iw:b<w.heap.size:=World.block_lt_of_cell? w _ (og a (by omega));refine(callsIn_wide (n:=3)).1 ?_;refine(K6 Fence.wide 3 trivial trivial trivial rfl (by omega) w b o cs.length cap a n (qr cs) (λj hj=>by rw[qw cs hb j hj];exact og j hj) ag (ir _ _ _ rfl) hn m6 h Iw).mono ?_;rintro e w' ⟨rfl,uq⟩;have e1:=Gy (qr cs) a n hn n (Nat.le_refl _);rw[Nat.sub_self,Nat.add_zero,zF cs hb a n h]at e1;refine⟨?_,uq⟩;rw[e1];rfl
theorem Jq(w:World)(ao:Option Addr)(len cap n:Nat)(z:Int)(hn:n≤8)(ag:len≤100000000)(h:z<0∨(len:Int)-(n:Int)<z):
  Calls Tryz.prog 91 #[.slice ao len cap,.int .i64 z,.int .i64 (n:Nat)] w λe w'=>e=.returned (.tuple #[.int .u64 0,.int .i64 20])/\w'=w:=by
 by_cases h0:z<0
 ·have Cb:decide (z<0)=true:=(by simpa using h0);clear h;go_enter Tryz.func91,Tryz.ntmps91;go_wp2_with fail;go_ret2;exact⟨rfl,rfl⟩
 ·have Cb:decide (z<0)=false:=(by simpa using h0);have pa:decide ((len:Int)-(n:Int)<z)=true:=(by simp;omega);clear h;go_enter Tryz.func91,Tryz.ntmps91;go_wp2_with fail;go_ret2;exact⟨rfl,rfl⟩
def qy(cs:List Nat)(z:Int)(n:Nat):Nat:=if 0<=z/\z+n<=cs.length then cP cs z.toNat n else 0
def tT(len:Nat)(z:Int)(n:Nat):Int:=if 0<=z/\z+n<=len then 0 else 20
theorem A1(cs:List Nat)(hb:∀b∈cs,b<256)(z:Int)(n:Nat):qy cs z n<256 ^ n:=by
 unfold qy;split
 ·exact Jm cs hb _ n
 ·exact Nat.pow_pos (by omega)
theorem BL(w:World)(v:Value)(I:Nat→Prop)(cs:List Nat)(hsrc:Src w I v cs)(ir:∀a n c,v=.slice a n c→n≤c)(hb:∀b∈cs,b<256)(ag:cs.length≤100000000)(z:Int)(n:Nat)(hn:n≤8)(m6:0<n):
  Calls Tryz.prog 91 #[v,.int .i64 z,.int .i64 (n:Nat)] w λe w'=>e=.returned (.tuple #[.int .u64 (qy cs z n:Nat),.int .i64 (tT cs.length z n)])/\Below w.heap.size w w':=by
 by_cases h:0<=z/\z+n<=cs.length
 ·obtain⟨a,rfl⟩:∃a:Nat,z=a:=⟨z.toNat,by omega⟩
  refine(Fv w v I cs hsrc ir hb ag a n hn m6 (by omega)).mono ?_;rintro e w' ⟨rfl,uq⟩;simp only[qy,tT,if_pos h];exact⟨rfl,uq⟩
 ·obtain⟨ao,cap,rfl,_⟩:=hsrc;refine(Jq w ao cs.length cap n z hn ag (by omega)).mono ?_;rintro e w' ⟨rfl,rfl⟩;simp only[qy,tT,if_neg h];exact⟨rfl,Below.refl _ _⟩
theorem CV(w:World)(v:Value)(I:Nat→Prop)(cs:List Nat)(hsrc:Src w I v cs)(ir:∀a n c,v=.slice a n c→n≤c)(hb:∀b∈cs,b<256)(ag:cs.length≤100000000)(z:Int):
  Calls Tryz.prog 64 #[v,.int .i64 z] w λe w'=>e=.returned (.tuple #[.int .u16 (qy cs z 2:Nat),.int .i64 (tT cs.length z 2)])/\Below w.heap.size w w':=by
 have HC:=BL w v I cs hsrc ir hb ag z 2 (by omega) (by omega);have hV:=A1 cs hb z 2;obtain⟨V,Kg⟩:∃V,V=qy cs z 2:=⟨_,rfl⟩
 obtain⟨E,LS⟩:∃E,E=tT cs.length z 2:=⟨_,rfl⟩
 rw[<-Kg,<-LS];rw[<-Kg,<-LS]at HC;rw[<-Kg]at hV;have Rr:V<65536:=hV;clear hV Kg LS;go_enter Tryz.func64,Tryz.ntmps64;go_wp2_with fail;refine HC.mono ?_;rintro e w' ⟨rfl,uq⟩;go_wp2_with fail;go_ret2;exact⟨by congr 4,uq⟩
theorem CQ(w:World)(v:Value)(I:Nat→Prop)(cs:List Nat)(hsrc:Src w I v cs)(ir:∀a n c,v=.slice a n c→n≤c)(hb:∀b∈cs,b<256)(ag:cs.length≤100000000)(z:Int):
  Calls Tryz.prog 65 #[v,.int .i64 z] w λe w'=>e=.returned (.tuple #[.int .u32 (qy cs z 4:Nat),.int .i64 (tT cs.length z 4)])/\Below w.heap.size w w':=by
 have HC:=BL w v I cs hsrc ir hb ag z 4 (by omega) (by omega);have hV:=A1 cs hb z 4;obtain⟨V,Kg⟩:∃V,V=qy cs z 4:=⟨_,rfl⟩
 obtain⟨E,LS⟩:∃E,E=tT cs.length z 4:=⟨_,rfl⟩
 rw[<-Kg,<-LS];rw[<-Kg,<-LS]at HC;rw[<-Kg]at hV;have Rr:V<4294967296:=hV;clear hV Kg LS;go_enter Tryz.func65,Tryz.ntmps65;go_wp2_with fail;refine HC.mono ?_;rintro e w' ⟨rfl,uq⟩;go_wp2_with fail;go_ret2;exact⟨by congr 4,uq⟩
end Go.Proofs.YtllcnlnbpikhdaaGreatDoor
namespace Go.Proofs.YtllcnlnbpikhdaaGreatDoor
open Go.RowKit
def aG(e:Nat):Ending:=.panicked [{v:=.iface 25 (.int .i64 (e:Nat)),recovered:=false}]
theorem bi(w:World)(z:Value):Calls Tryz.prog 23 #[.bool true,z] w λe w'=>e=.returned (.tuple #[])/\w'=w:=by go_enter Tryz.func23,Tryz.ntmps23;go_wp2_with fail;go_end0;exact⟨rfl,rfl⟩
theorem aM(w:World)(n:Nat):Calls Tryz.prog 23 #[.bool false,.int .i64 (n:Nat)] w λe w'=>e=aG n/\w'=w:=by go_enter Tryz.func23,Tryz.ntmps23;go_wp2_with fail;exact⟨rfl,rfl,rfl⟩
structure Cur(N:Nat)(w:World)(c:Nat)(r:List Nat)(a:Option Addr)(cap:Nat):Prop where
 blk:Blk w c #[.slice a r.length cap] 64
 src:Src w (λk=>k<N) (.slice a r.length cap) r
 room:r.length<=cap
 new:N<=c
 byte:∀b∈r,b<256
 len:r.length<=2000000
 adr:a≠none
theorem Cur.kept{F:Nat->Prop}{N:Nat}{w w':World}{c:Nat}{r:List Nat}{a:Option Addr}{cap:Nat}(h:Cur N w c r a cap)(hk:Kept F w w')(h1:¬F c)(h2:∀k,k<N->¬F k):Cur N w' c r a cap:=
 ⟨h.blk.kept hk h1,h.src.kept hk (λk hk _=>h2 k hk),h.room,h.new,h.byte,h.len,h.adr⟩
structure Tkn(N:Nat)(w:World)(v:Value)(n:Nat)(x:List Nat):Prop where
 src:Src w (λk=>k<N) v x
 room:∀a m c,v=.slice a m c->m<=c
 len:x.length=n
 byte:∀b∈x,b<256
 shp:∃a c,v=.slice a n c
 adr:∀m c,v≠.slice none m c
theorem Tkn.kept{F:Nat->Prop}{N:Nat}{w w':World}{v:Value}{n:Nat}{x:List Nat}(h:Tkn N w v n x)(hk:Kept F w w')(h2:∀k,k<N->¬F k):Tkn N w' v n x:=⟨h.src.kept hk (λk hk _=>h2 k hk),h.room,h.len,h.byte,h.shp,h.adr⟩
theorem xy{n:Nat}{r x y:List Nat}(h:eF n r=some (x,y)):n<=r.length/\x=r.take n/\y=r.drop n:=by
 unfold eF at h;split at h
 ·simp only[Option.some.injEq,Prod.mk.injEq]at h;exact⟨by assumption,h.1.symm,h.2.symm⟩
 ·cases h
theorem Gi{n:Nat}{r:List Nat}(h:eF n r=none):r.length<n:=by
 unfold eF at h;split at h
 ·cases h
 ·omega
theorem Src.head8{w:World}{I:Nat->Prop}{a:Option Addr}{n cap:Nat}{bs:List Nat}(h:Src w I (.slice a bs.length cap) bs)(hn:n<=bs.length)(c':Nat):Src w I (.slice a n c') (bs.take n):=by obtain⟨ao,c,e,hs⟩:=h;simp only[Value.slice.injEq]at e;obtain⟨rfl,_,rfl⟩:=e;refine⟨a,c',by rw[List.length_take,Nat.min_eq_left hn],λbh=>?_⟩;obtain⟨b,o,h1,h2,h3⟩:=hs (λe=>bh (by rw[e];simp));refine⟨b,o,h1,h2,λj hj=>?_⟩;rw[List.length_take]at hj;rw[h3 j (by omega),List.getElem_take]
theorem Src.tail8{w:World}{I:Nat->Prop}{a a':Option Addr}{n cap c':Nat}{bs:List Nat}(h:Src w I (.slice a bs.length cap) bs)(hn:n<=bs.length)(ha:n<bs.length->∃b o,a=some ⟨b,o,none⟩/\a'=some ⟨b,o+n,none⟩):Src w I (.slice a' (bs.length-n) c') (bs.drop n):=by
 obtain⟨ao,c,e,hs⟩:=h;simp only[Value.slice.injEq]at e;obtain⟨rfl,_,rfl⟩:=e;refine⟨a',c',by rw[List.length_drop],λbh=>?_⟩;have hlt:n<bs.length:=by refine Classical.byContradiction (λhc=>bh ?_);exact List.drop_eq_nil_of_le (by omega)
 obtain⟨b,o,h1,h2,h3⟩:=hs (λe=>by rw[e]at hlt;simp at hlt);obtain⟨b',o',h4,h5⟩:=ha hlt;rw[h1]at h4;simp only[Option.some.injEq,Addr.mk.injEq,and_true]at h4;obtain⟨rfl,rfl⟩:=h4;refine⟨b,o+n,h5,h2,λj hj=>?_⟩;rw[List.length_drop]at hj;have:=h3 (n+j) (by omega);rw[<-Nat.add_assoc]at this;rw[this,List.getElem_drop]
def TakZ(N:Nat)(w w':World)(c n:Nat)(r:List Nat)(e:Ending):Prop:=
 (∀x y,eF n r=some (x,y)->∃v a' cap',e=.returned v/\Tkn N w' v n x/\Cur N w' c y a' cap'/\Kept (·=c) w w')/\(eF n r=none->e=aG 81/\Same w w')
theorem TakZ.good{N:Nat}{w w':World}{c n:Nat}{r x y:List Nat}{e:Ending}(ht:eF n r=some (x,y)){v:Value}{a':Option Addr}{cap':Nat}(he:e=.returned v)(h1:Tkn N w' v n x)(h2:Cur N w' c y a' cap')(h3:Kept (·=c) w w'):TakZ N w w' c n r e:=
 ⟨λx' y' h=>by rw[ht]at h;simp only[Option.some.injEq,Prod.mk.injEq]at h;obtain⟨rfl,rfl⟩:=h;exact⟨v,a',cap',he,h1,h2,h3⟩,λh=>by rw[ht]at h;cases h⟩
theorem TakZ.bad{N:Nat}{w w':World}{c n:Nat}{r:List Nat}{e:Ending}(ht:eF n r=none)(he:e=aG 81)(h3:Same w w'):TakZ N w w' c n r e:=
 ⟨λx' y' h=>(by rw[ht]at h;cases h),λ_=>⟨he,h3⟩⟩
theorem Cur.cut{N:Nat}{w:World}{c:Nat}{r:List Nat}{a a':Option Addr}{cap n:Nat}(h:Cur N w c r a cap)(hn:n<=r.length)(ha:n<r.length->∃b o,a=some ⟨b,o,none⟩/\a'=some ⟨b,o+n,none⟩)(QT:a'≠none)(u:Value)(hu:u=.slice a' (r.length-n) (cap-n)):Tkn N (w.setCell ⟨c,0,none⟩ u) (.slice a n cap) n (r.take n)/\Cur N (w.setCell ⟨c,0,none⟩ u) c (r.drop n) a' (cap-n)/\Kept (·=c) w (w.setCell ⟨c,0,none⟩ u):=by
 have hk:Kept (·=c) w (w.setCell ⟨c,0,none⟩ u):=(Kept.refl (·=c) w).setCell _ _ (.inl rfl);have hN:=h.new;have hr:=h.room;refine⟨⟨(h.src.head8 hn cap).kept hk (λk h1 _ e=>by omega),λa9 m9 c9 e9=>by simp only[Value.slice.injEq]at e9;omega,by rw[List.length_take,Nat.min_eq_left hn],λb hb=>h.byte b (List.mem_of_mem_take hb),⟨a,cap,rfl⟩,λm c e=>h.adr (by simp only[Value.slice.injEq]at e;exact e.1)⟩,⟨?_,?_,by rw[List.length_drop];omega,hN,λb hb=>h.byte b (List.mem_of_mem_drop hb),by have:=h.len;rw[List.length_drop];omega,QT⟩,hk⟩
 ·have:=h.blk.set 0 u;rw[List.length_drop,<-hu];simpa using this
 ·have h9:=h.src.tail8 (a':=a') (c':=cap-n) hn ha;rw[List.length_drop];exact h9.kept hk (λk h1 _ e=>by omega)
theorem ew(N:Nat)(w:World)(c:Nat)(r:List Nat)(a:Option Addr)(cap n:Nat)(h:Cur N w c r a cap)(hn:n≤2000000):
  Calls Tryz.prog 43 #[.pointer (some ⟨c,0,none⟩),.int .i64 (n:Nat)] w λe w'=>TakZ N w w' c n r e:=by
 have c0:=h.blk.cell 0;have z0:=h.blk.frozen 0;simp at c0;have HC:Hid (Cur N w c r a cap):=h;obtain⟨L,hL⟩:∃L,L=r.length:=⟨_,rfl⟩
 have HLr:Hid (L=r.length):=hL;have Pl:L<=2000000:=by have:=h.len;omega
 have Yo:L<=cap:=by have:=h.room;omega
 rw[<-hL]at c0;clear h;cases ht:eF n r with
 | none=>
  have HTK:Hid (eF n r=none):=ht;have hlt:=Gi ht;have b2:decide (n<=L)=false:=(by simp;omega);have HB:=aM w 81;clear hlt ht hL;go_enter Tryz.func43,Tryz.ntmps43;go_wp2_with fail;refine HB.mono ?_;rintro e w1 ⟨rfl,hw1⟩;subst hw1;unfold aG;go_wp2_with fail;exact⟨rfl,TakZ.bad HTK.out rfl (Kept.refl _ _)⟩
 | some p=>
  obtain⟨x,y⟩:=p;have HTK:Hid (eF n r=some (x,y)):=ht;obtain⟨md,hx,hy⟩:=xy ht;have HXY:Hid (n<=r.length/\x=r.take n/\y=r.drop n):=hid ⟨md,hx,hy⟩;have b2:decide (n<=L)=true:=(by simp;omega);have HOK:=bi w (.int .i64 81);have Et:n<=cap:=(by omega);have i1:(0:Int)<=(n:Int):=(by omega);have i2:(n:Int)<=(cap:Int):=(by omega);have i3:(n:Int)<=(L:Int):=(by omega);have i4:(L:Int)<=(cap:Int):=(by omega);have HAD:Hid (n<r.length->∃b o,a=some ⟨b,o,none⟩):=hid (λh8=>by
   obtain⟨ao,co,e9,h9⟩:=HC.out.src;simp only[Value.slice.injEq]at e9;obtain⟨b,o,h1,_⟩:=h9 (λe=>by rw[e]at h8;simp at h8);exact⟨b,o,by rw[e9.1];exact h1⟩)
  clear ht hL md hx hy;by_cases ti:cap=n
  ·obtain rfl:L=n:=by omega
   subst ti;go_enter Tryz.func43,Tryz.ntmps43;go_wp2_with fail;refine HOK.mono ?_;rintro e w1 ⟨rfl,hw1⟩;subst hw1;clear HOK;go_wp2_with fail;go_ret;have Q1:=HLr.out;obtain⟨h1,h2,h3⟩:=HC.out.cut (n:=cap) (a':=a) HXY.out.1 (λh8=>by omega) HC.out.adr (.slice a 0 0) (by rw[<-Q1];simp);exact TakZ.good HTK.out rfl (by rw[HXY.out.2.1];exact h1) (by rw[HXY.out.2.2];exact h2) h3
  ·go_enter Tryz.func43,Tryz.ntmps43;go_wp2_with fail;refine HOK.mono ?_;rintro e w1 ⟨rfl,hw1⟩;subst hw1;clear HOK;go_wp2_with fail;go_ret;have Q1:=HLr.out;obtain⟨h1,h2,h3⟩:=HC.out.cut (n:=n) (a':=a.map (Addr.add · n)) HXY.out.1 (λh8=>by obtain⟨b9,o9,Eu⟩:=HAD.out h8;exact⟨b9,o9,Eu,by rw[Eu];simp[cL]⟩) (λe=>HC.out.adr (by cases h9:a with | none=>rfl | some x=>rw[h9]at e;cases e)) (.slice (a.map (Addr.add · n)) (L-n) (cap-n)) (by rw[<-Q1]);exact TakZ.good HTK.out rfl (by rw[HXY.out.2.1];exact h1) (by rw[HXY.out.2.2];exact h2) h3
theorem pA{w w':World}(h:Below w.heap.size w w'):Same w w':=⟨h.os,h.tape,h.output,h.size,λk hk _=>h.block k hk⟩
def NumZ(N:Nat)(w w':World)(c n:Nat)(k:IntKind)(r:List Nat)(e:Ending):Prop:=
 (∀x y,dS n r=some (x,y)->∃a' cap',e=.returned (.int k (x:Nat))/\x<256 ^ n/\Cur N w' c y a' cap'/\Kept (·=c) w w')/\(dS n r=none->e=aG 81/\Same w w')
theorem NumZ.good{N:Nat}{w w':World}{c n x:Nat}{k:IntKind}{r y:List Nat}{e:Ending}(ht:dS n r=some (x,y)){a':Option Addr}{cap':Nat}(he:e=.returned (.int k (x:Nat)))(h1:x<256 ^ n)(h2:Cur N w' c y a' cap')(h3:Kept (·=c) w w'):NumZ N w w' c n k r e:=
 ⟨λx' y' h=>by rw[ht]at h;simp only[Option.some.injEq,Prod.mk.injEq]at h;obtain⟨rfl,rfl⟩:=h;exact⟨a',cap',he,h1,h2,h3⟩,λh=>by rw[ht]at h;cases h⟩
theorem NumZ.bad{N:Nat}{w w':World}{c n:Nat}{k:IntKind}{r:List Nat}{e:Ending}(ht:dS n r=none)(he:e=aG 81)(h3:Same w w'):NumZ N w w' c n k r e:=
 ⟨λx' y' h=>(by rw[ht]at h;cases h),λ_=>⟨he,h3⟩⟩
theorem Gb{n:Nat}{r x y:List Nat}(h:eF n r=some (x,y)):dS n r=some (aN x,y):=by unfold dS;rw[h]
theorem Gu{n:Nat}{r:List Nat}(h:eF n r=none):dS n r=none:=by unfold dS;rw[h]
theorem xh(x:List Nat)(n:Nat)(h:x.length=n):qy x 0 n=aN x:=by unfold qy cP;rw[if_pos (by omega)];simp only[Int.toNat_zero,List.drop_zero];rw[List.take_of_length_le (by omega)]
theorem kw(N:Nat)(w:World)(c:Nat)(r:List Nat)(a:Option Addr)(cap:Nat)(h:Cur N w c r a cap):
  Calls Tryz.prog 41 #[.pointer (some ⟨c,0,none⟩)] w λe w'=>NumZ N w w' c 2 .u16 r e:=by
 have HT:=ew N w c r a cap 2 h (by decide);have HN:Hid (N<=c):=hid h.new;cases ht:eF 2 r with
 | none=>
  have HB:Hid (eF 2 r=none):=ht;clear h ht;go_enter Tryz.func41,Tryz.ntmps41;go_wp2_with fail;refine HT.mono ?_;intro e w1 h1;obtain⟨rfl,hk⟩:=h1.2 HB.out;have HK:Hid (Same w w1):=hk;clear h1 hk HT;unfold aG;go_wp2_with fail;exact⟨rfl,NumZ.bad (Gu HB.out) rfl HK.out⟩
 | some p=>
  obtain⟨x,y⟩:=p;have HB:Hid (eF 2 r=some (x,y)):=ht;clear h ht;go_enter Tryz.func41,Tryz.ntmps41;go_wp2_with fail;refine HT.mono ?_;intro e w1 h1;obtain⟨v,a',cap',rfl,htk,rP,hk⟩:=h1.1 x y HB.out;have HTK:Hid (Tkn N w1 v 2 x):=htk;have HCU:Hid (Cur N w1 c y a' cap'):=rP;have HK:Hid (Kept (·=c) w w1):=hk;have HG:=CV w1 v _ x htk.src htk.room htk.byte (by rw[htk.len];decide) 0;rw[xh x 2 htk.len]at HG;obtain⟨V,hV⟩:∃V,V=aN x:=⟨_,rfl⟩
  have HV:Hid (V=aN x/\V<256 ^ 2):=hid ⟨hV,by rw[hV,<-htk.len];exact mi x htk.byte⟩;rw[<-hV]at HG;obtain⟨E,hE⟩:∃E,E=tT x.length 0 2:=⟨_,rfl⟩
  rw[<-hE]at HG;obtain⟨va,vc,OD⟩:=htk.shp;subst OD;clear h1 htk rP hk HT hV hE;go_wp2_with fail;refine HG.mono ?_;rintro e w2 ⟨rfl,hb2⟩;have HK2:Hid (Same w1 w2):=hid (pA hb2);clear hb2 HG;go_wp2_with fail;go_ret;exact NumZ.good (Gb HB.out) (by rw[<-HV.out.1];rfl) (by rw[<-HV.out.1];exact HV.out.2) (HCU.out.kept HK2.out (λf=>f) (λ_ _ f=>f)) (Kept.trans HK.out HK2.out (λ_ _ e=>e) (λ_ _ f=>f.elim))
theorem gL(N:Nat)(w:World)(c:Nat)(r:List Nat)(a:Option Addr)(cap:Nat)(h:Cur N w c r a cap):
  Calls Tryz.prog 42 #[.pointer (some ⟨c,0,none⟩)] w λe w'=>NumZ N w w' c 4 .u32 r e:=by
 have HT:=ew N w c r a cap 4 h (by decide);have HN:Hid (N<=c):=hid h.new;cases ht:eF 4 r with
 | none=>
  have HB:Hid (eF 4 r=none):=ht;clear h ht;go_enter Tryz.func42,Tryz.ntmps42;go_wp2_with fail;refine HT.mono ?_;intro e w1 h1;obtain⟨rfl,hk⟩:=h1.2 HB.out;have HK:Hid (Same w w1):=hk;clear h1 hk HT;unfold aG;go_wp2_with fail;exact⟨rfl,NumZ.bad (Gu HB.out) rfl HK.out⟩
 | some p=>
  obtain⟨x,y⟩:=p;have HB:Hid (eF 4 r=some (x,y)):=ht;clear h ht;go_enter Tryz.func42,Tryz.ntmps42;go_wp2_with fail;refine HT.mono ?_;intro e w1 h1;obtain⟨v,a',cap',rfl,htk,rP,hk⟩:=h1.1 x y HB.out;have HTK:Hid (Tkn N w1 v 4 x):=htk;have HCU:Hid (Cur N w1 c y a' cap'):=rP;have HK:Hid (Kept (·=c) w w1):=hk;have HG:=CQ w1 v _ x htk.src htk.room htk.byte (by rw[htk.len];decide) 0;rw[xh x 4 htk.len]at HG;obtain⟨V,hV⟩:∃V,V=aN x:=⟨_,rfl⟩
  have HV:Hid (V=aN x/\V<256 ^ 4):=hid ⟨hV,by rw[hV,<-htk.len];exact mi x htk.byte⟩;rw[<-hV]at HG;obtain⟨E,hE⟩:∃E,E=tT x.length 0 4:=⟨_,rfl⟩
  rw[<-hE]at HG;obtain⟨va,vc,OD⟩:=htk.shp;subst OD;clear h1 htk rP hk HT hV hE;go_wp2_with fail;refine HG.mono ?_;rintro e w2 ⟨rfl,hb2⟩;have HK2:Hid (Same w1 w2):=hid (pA hb2);clear hb2 HG;go_wp2_with fail;go_ret;exact NumZ.good (Gb HB.out) (by rw[<-HV.out.1];rfl) (by rw[<-HV.out.1];exact HV.out.2) (HCU.out.kept HK2.out (λf=>f) (λ_ _ f=>f)) (Kept.trans HK.out HK2.out (λ_ _ e=>e) (λ_ _ f=>f.elim))
def ExpZ(N:Nat)(w w':World)(c:Nat)(o:Option (List Nat))(e:Ending):Prop:=
 (∀y,o=some y->∃a' cap',e=.returned (.tuple #[])/\Cur N w' c y a' cap'/\Kept (·=c) w w')/\(o=none->e=aG 81/\Kept (·=c) w w')
theorem ExpZ.good{N:Nat}{w w':World}{c:Nat}{o:Option (List Nat)}{y:List Nat}{e:Ending}(ht:o=some y){a':Option Addr}{cap':Nat}(he:e=.returned (.tuple #[]))(h2:Cur N w' c y a' cap')(h3:Kept (·=c) w w'):ExpZ N w w' c o e:=
 ⟨λy' h=>by rw[ht]at h;simp only[Option.some.injEq]at h;subst h;exact⟨a',cap',he,h2,h3⟩,λh=>by rw[ht]at h;cases h⟩
theorem ExpZ.bad{N:Nat}{w w':World}{c:Nat}{o:Option (List Nat)}{e:Ending}(ht:o=none)(he:e=aG 81)(h3:Kept (·=c) w w'):ExpZ N w w' c o e:=
 ⟨λy' h=>(by rw[ht]at h;cases h),λ_=>⟨he,h3⟩⟩
theorem jN{n v x:Nat}{r y:List Nat}(h:dS n r=some (x,y)):eM n v r=if x=v then some y else none:=by unfold eM;rw[h]
theorem ua{n v:Nat}{r:List Nat}(h:dS n r=none):eM n v r=none:=by unfold eM;rw[h]
theorem Same.k8{c:Nat}{w w':World}(h:Same w w'):Kept (·=c) w w':=h.mono (λ_ _ f=>f.elim)
theorem Kept.k8{c:Nat}{a b d:World}(h:Kept (·=c) a b)(k:Kept (·=c) b d):Kept (·=c) a d:=Kept.trans h k (λ_ _ e=>e) (λ_ _ e=>e)
theorem nP(N:Nat)(w:World)(c:Nat)(r:List Nat)(a:Option Addr)(cap v:Nat)(h:Cur N w c r a cap)(hv:v<4294967296):
  Calls Tryz.prog 39 #[.pointer (some ⟨c,0,none⟩),.int .u32 (v:Nat)] w λe w'=>ExpZ N w w' c (eM 4 v r) e:=by
 have HF:=gL N w c r a cap h;cases ht:dS 4 r with
 | none=>
  have HB:Hid (dS 4 r=none):=ht;clear h ht;go_enter Tryz.func39,Tryz.ntmps39;go_wp2_with fail;refine HF.mono ?_;intro e w1 h1;obtain⟨rfl,hk⟩:=h1.2 HB.out;have HK:Hid (Same w w1):=hk;clear h1 hk HF;unfold aG;go_wp2_with fail;exact⟨rfl,ExpZ.bad (ua HB.out) rfl HK.out.k8⟩
 | some p=>
  obtain⟨x,y⟩:=p;have HB:Hid (dS 4 r=some (x,y)):=ht;clear h ht;by_cases hx:x=v
  ·subst hx;go_enter Tryz.func39,Tryz.ntmps39;go_wp2_with fail;refine HF.mono ?_;intro e w1 h1;obtain⟨a',cap',rfl,Ej,rP,hk⟩:=h1.1 x y HB.out;have HCU:Hid (Cur N w1 c y a' cap'):=rP;have HK:Hid (Kept (·=c) w w1):=hk;have HO:=bi w1 (.int .i64 81);clear h1 rP hk HF Ej;go_wp2_with fail;refine HO.mono ?_;rintro e w2 ⟨rfl,hw2⟩;subst hw2;clear HO;go_wp2_with fail;go_end0;exact ExpZ.good (by rw[jN HB.out,if_pos rfl]) rfl HCU.out HK.out
  ·have bx:((x:Int)==(v:Int))=false:=(by simp;omega);have HX:Hid (¬x=v):=hx;clear hx;go_enter Tryz.func39,Tryz.ntmps39;go_wp2_with fail;refine HF.mono ?_;intro e w1 h1;obtain⟨a',cap',rfl,Ej,rP,hk⟩:=h1.1 x y HB.out;have HK:Hid (Kept (·=c) w w1):=hk;have HO:=aM w1 81;clear h1 rP hk HF Ej;go_wp2_with fail;refine HO.mono ?_;rintro e w2 ⟨rfl,hw2⟩;subst hw2;clear HO;unfold aG;go_wp2_with fail;exact⟨rfl,ExpZ.bad (by rw[jN HB.out,if_neg HX.out]) rfl HK.out⟩
theorem kH(N:Nat)(w:World)(c:Nat)(r:List Nat)(a:Option Addr)(cap v g:Nat)(h:Cur N w c r a cap)(hv:v<65536)(hg:w.cell? ⟨g,0,none⟩=some (.int .u16 (v:Nat))):
  Calls Tryz.prog 40 #[.pointer (some ⟨c,0,none⟩),.slice (some ⟨g,0,none⟩) 1 1] w λe w'=>ExpZ N w w' c (eM 2 v r) e:=by
 have HF:=kw N w c r a cap h;cases ht:dS 2 r with
 | none=>
  have HB:Hid (dS 2 r=none):=ht;clear h ht;go_enter Tryz.func40,Tryz.ntmps40;go_wp2_with fail;refine wp_loop_rounds 2 ?_;rw[rounds_succ];go_wp2_with fail;refine HF.mono ?_;intro e w1 h1;obtain⟨rfl,hk⟩:=h1.2 HB.out;have HK:Hid (Same w w1):=hk;clear h1 hk HF hg;unfold aG;go_wp2_with fail;exact⟨rfl,ExpZ.bad (ua HB.out) rfl HK.out.k8⟩
 | some p=>
  obtain⟨x,y⟩:=p;have HB:Hid (dS 2 r=some (x,y)):=ht;clear h ht;by_cases hx:x=v
  ·subst hx;go_enter Tryz.func40,Tryz.ntmps40;go_wp2_with fail;refine wp_loop_rounds 2 ?_;rw[rounds_succ];go_wp2_with fail;refine HF.mono ?_;intro e w1 h1;obtain⟨a',cap',rfl,Ej,rP,hk⟩:=h1.1 x y HB.out;have HCU:Hid (Cur N w1 c y a' cap'):=rP;have HK:Hid (Kept (·=c) w w1):=hk;have HO:=bi w1 (.int .i64 81);clear h1 rP hk HF Ej hg;go_wp2_with fail;refine HO.mono ?_;rintro e w2 ⟨rfl,hw2⟩;subst hw2;clear HO;go_wp2_with fail;rw[rounds_succ];go_wp2_with fail;go_end0;exact ExpZ.good (by rw[jN HB.out,if_pos rfl]) rfl HCU.out HK.out
  ·have bx:((x:Int)==(v:Int))=false:=(by simp;omega);have HX:Hid (¬x=v):=hx;clear hx;go_enter Tryz.func40,Tryz.ntmps40;go_wp2_with fail;refine wp_loop_rounds 2 ?_;rw[rounds_succ];go_wp2_with fail;refine HF.mono ?_;intro e w1 h1;obtain⟨a',cap',rfl,Ej,rP,hk⟩:=h1.1 x y HB.out;have HK:Hid (Kept (·=c) w w1):=hk;have HO:=aM w1 81;clear h1 rP hk HF Ej hg;go_wp2_with fail;refine HO.mono ?_;rintro e w2 ⟨rfl,hw2⟩;subst hw2;clear HO;unfold aG;go_wp2_with fail;exact⟨rfl,ExpZ.bad (by rw[jN HB.out,if_neg HX.out]) rfl HK.out⟩
def nQ(v u:Nat)(r:List Nat):Option (List Nat):=da (eM 2 v r) λr=>eM 2 u r
theorem sV(N:Nat)(w:World)(c:Nat)(r:List Nat)(a:Option Addr)(cap v u g:Nat)(h:Cur N w c r a cap)(hv:v<65536)(hu:u<65536)(Uh:g≠c)(hg:w.cell? ⟨g,0,none⟩=some (.int .u16 (v:Nat)))(rM:w.cell? ⟨g,1,none⟩=some (.int .u16 (u:Nat))):
  Calls Tryz.prog 40 #[.pointer (some ⟨c,0,none⟩),.slice (some ⟨g,0,none⟩) 2 2] w λe w'=>ExpZ N w w' c (nQ v u r) e:=by
 have HF:=kw N w c r a cap h;have HG1:Hid (∀w1,Kept (·=c) w w1->w1.cell? ⟨g,1,none⟩=some (.int .u16 (u:Nat))):=hid (λw1 hk=>hk.cell rM (λe=>Uh e));clear rM;cases ht:dS 2 r with
 | none=>
  have HB:Hid (dS 2 r=none):=ht;clear h ht;go_enter Tryz.func40,Tryz.ntmps40;go_wp2_with fail;refine wp_loop_rounds 3 ?_;rw[rounds_succ];go_wp2_with fail;refine HF.mono ?_;intro e w1 h1;obtain⟨rfl,hk⟩:=h1.2 HB.out;have HK:Hid (Same w w1):=hk;clear h1 hk HF hg;unfold aG;go_wp2_with fail;exact⟨rfl,ExpZ.bad (nM (ua HB.out)) rfl HK.out.k8⟩
 | some p=>
  obtain⟨x,y⟩:=p;have HB:Hid (dS 2 r=some (x,y)):=ht;clear h ht;by_cases hx:x=v
  ·subst hx;go_enter Tryz.func40,Tryz.ntmps40;go_wp2_with fail;refine wp_loop_rounds 3 ?_;rw[rounds_succ];go_wp2_with fail;refine HF.mono ?_;intro e w1 h1;obtain⟨a',cap',rfl,Ej,rP,hk⟩:=h1.1 x y HB.out;have HK:Hid (Kept (·=c) w w1):=hk;have HO:=bi w1 (.int .i64 81);have HF2:=kw N w1 c y a' cap' rP;have HE1:Hid (eM 2 x r=some y):=hid (by rw[jN HB.out,if_pos rfl]);clear h1 rP hk HF Ej hg;go_wp2_with fail;refine HO.mono ?_;rintro e w2 ⟨rfl,hw2⟩;subst hw2;have rM:=HG1.out w2 HK.out;clear HO;go_wp2_with fail;rw[rounds_succ];go_wp2_with fail;refine HF2.mono ?_;intro e w3 h3;cases iE:dS 2 y with
   | none=>
    obtain⟨rfl,hk3⟩:=h3.2 iE;have HK3:Hid (Kept (·=c) w w3):=hid (HK.out.k8 hk3.k8);have HB2:Hid (dS 2 y=none):=iE;clear h3 hk3 HF2 rM iE;unfold aG;go_wp2_with fail;exact⟨rfl,ExpZ.bad (by unfold nQ;rw[aB HE1.out];exact ua HB2.out) rfl HK3.out⟩
   | some p2=>
    obtain⟨x2,y2⟩:=p2;obtain⟨a2,eG,rfl,_,hcu2,hk3⟩:=h3.1 x2 y2 iE;have HK3:Hid (Kept (·=c) w w3):=hid (HK.out.k8 hk3);have HB2:Hid (dS 2 y=some (x2,y2)):=iE;have HCU:Hid (Cur N w3 c y2 a2 eG):=hcu2;clear h3 hk3 HF2 rM iE hcu2;by_cases fX:x2=u
    ·subst fX;have HO:=bi w3 (.int .i64 81);go_wp2_with fail;refine HO.mono ?_;rintro e w4 ⟨rfl,hw4⟩;subst hw4;clear HO;go_wp2_with fail;rw[rounds_succ];go_wp2_with fail;go_end0;exact ExpZ.good (by unfold nQ;rw[aB HE1.out,jN HB2.out,if_pos rfl]) rfl HCU.out HK3.out
    ·have bx:((x2:Int)==(u:Int))=false:=(by simp;omega);have HX:Hid (¬x2=u):=fX;have HO:=aM w3 81;clear fX;go_wp2_with fail;refine HO.mono ?_;rintro e w4 ⟨rfl,hw4⟩;subst hw4;clear HO;unfold aG;go_wp2_with fail;exact⟨rfl,ExpZ.bad (by unfold nQ;rw[aB HE1.out,jN HB2.out,if_neg HX.out]) rfl HK3.out⟩
  ·have bx:((x:Int)==(v:Int))=false:=(by simp;omega);have HX:Hid (¬x=v):=hx;clear hx;go_enter Tryz.func40,Tryz.ntmps40;go_wp2_with fail;refine wp_loop_rounds 3 ?_;rw[rounds_succ];go_wp2_with fail;refine HF.mono ?_;intro e w1 h1;obtain⟨a',cap',rfl,Ej,rP,hk⟩:=h1.1 x y HB.out;have HK:Hid (Kept (·=c) w w1):=hk;have HO:=aM w1 81;clear h1 rP hk HF Ej hg;go_wp2_with fail;refine HO.mono ?_;rintro e w2 ⟨rfl,hw2⟩;subst hw2;clear HO;unfold aG;go_wp2_with fail;exact⟨rfl,ExpZ.bad (by unfold nQ;rw[nM (by rw[jN HB.out,if_neg HX.out])]) rfl HK.out⟩
end Go.Proofs.YtllcnlnbpikhdaaGreatDoor
