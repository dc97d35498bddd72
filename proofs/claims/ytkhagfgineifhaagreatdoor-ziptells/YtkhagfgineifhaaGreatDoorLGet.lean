import Derived.Test.YtkhagfgineifhaaGreatDoorLRef
import Derived.RangeFuncBox
import Derived.Laws.BitsAllLaws
import Derived.RangeFuncLeaves
import Derived.Shelf.Abstract
import Derived.WalkKit
import Derived.OwnWalkIn
import Derived.TacticsInMore
import Derived.LoopNIn
import Derived.LoopIn
set_option maxHeartbeats 2000000
set_option maxRecDepth 100000
namespace Go.Proofs.YtkhagfgineifhaaGreatDoor
open Go.RowKit Go.Shelf
attribute [local go_sem] Oper.semAt_some
abbrev sd:=Nat×Fin 256
def BM(x:sd):Array Value:=#[.int .i64 (x.1:Int),.int .u8 (x.2.val:Int)]
def upto(f:Nat->sd)(k:Nat):List sd:=(List.range k).map f
theorem ot(f:Nat->sd)(k:Nat):upto f (k+1)=upto f k++[f k]:=by simp[upto,List.range_succ]
theorem wG(f:Nat->sd)(k:Nat):(upto f k).length=k:=by simp[upto]
def Holds(n₀ B:Nat)(W W':World):Prop:=Below n₀ W W'/\W'.heap[B]? = W.heap[B]?
theorem Holds.trans{n₀ B:Nat}{X Y Z:World}(h:Holds n₀ B X Y)(k:Holds n₀ B Y Z):Holds n₀ B X Z:=⟨h.1.trans k.1,k.2.trans h.2⟩
theorem Holds.put{n₀ B:Nat}{w:World}(hn:n₀<=w.heap.size)(hB:B<w.heap.size)(W:World)(l:Nat)(o o':Obj)(hl:w.heap.size<=l)(h:W.heap[l]? = some o)(h1:o.isCells=false)(h2:o.isWalk=false):Holds n₀ B W (W.putObj l o'):=by have hlt:=(Array.getElem?_eq_some_iff.1 h).1;exact⟨belowK_b hn W l o o' hl h h1 h2,(grownBy_putObj' W l o').block B (by omega) (λe=>by cases e;omega)⟩
theorem Holds.set{n₀ B:Nat}{W:World}(p:Addr)(v:Value)(h1:n₀<=p.block)(h2:B≠p.block):Holds n₀ B W (W.setCell p v):=
 ⟨(Below.refl n₀ W).setCell (p:=p) h1 v,Below.heap_setCell _ _ _ _ (λe=>h2 e)⟩
theorem Hh(F:Fence)(n:Nat)(h7:F.fn 188)(lw:F.round=none)(hn:1≤n)(l Bs n₀ b off len cap:Nat)(f:Nat→Fin 256)(Is:len≤100000000)(hb:b<n₀)(J Jx:List sd→World→Prop)
  (hY:∀pre x W,J pre W->pre.length<len->YieldAt F (n-1) Tryz.prog l (BM x) W λe W'=>
   (e=.returned (.bool true)/\J (pre++[x]) W'/\Holds n₀ Bs W W')\/(e=.returned (.bool false)/\Jx (pre++[x]) W'))
  (W:World) (OV:W.cell? ⟨Bs,0,none⟩=some (.slice (some ⟨b,off,none⟩) len cap)) (hc:∀j,j<len->W.cell? ⟨b,off+j,none⟩=some (.int .u8 ((f j).val:Int))) (h0:J [] W):
  CallsIn F n Tryz.prog 188 #[.func (.yield l) #[] #[],.pointer (some ⟨Bs,0,none⟩)] W λe W'=>(∃v,e=.returned v) /\
   ((∃ys,ys=upto (λj=>(len-1-j,f (len-1-j))) len/\J ys W')\/(∃pre,(∃k,k<=len/\pre=upto (λj=>(len-1-j,f (len-1-j))) k)/\Jx pre W')):=by
 refine callsIn_of_wp Tryz.func188 rfl h7 ?_ lw;simp only[Tryz.ntmps188,List.size_toArray,List.length_cons,List.length_nil,Nat.reduceAdd,Nat.reduceSub,Array.replicate_succ,Array.replicate_zero,List.push_toArray,List.append_toArray,List.nil_append,List.cons_append];gi_wp2;gi_loopw [3] (λi wr=>∃k:Nat,k<=len/\i=.int .i64 ((len:Int)-1-k)/\J (upto (λj=>(len-1-j,f (len-1-j))) k) wr/\Holds n₀ Bs W wr)
  (λi _=>(intOf i+1).toNat)
 case atStart=>exact⟨0,Nat.zero_le _,by simp,h0,Below.refl _ _,rfl⟩
 case round=>
  obtain⟨k,hk,rfl,EM,hnx⟩:=hrel;have Qr:=(World.cell?_of_block (a:=⟨Bs,0,none⟩) hnx.2).trans OV;by_cases hlt:k<len
  ·obtain⟨m,hm⟩:∃m,m=len-1-k:=⟨_,rfl⟩
   have ip:(len:Int)-1-k=(m:Nat):=(by omega);obtain⟨fn,tmps,assign,body,hy,hR⟩:=hY _ (m,f m) wr EM (by rw[wG];exact hlt);have rN:wr.cell? ⟨b,off+m,none⟩=some (.int .u8 ((f m).val:Int)):=(hnx.1.cell (p:=⟨b,off+m,none⟩) hb).trans (hc m (by omega));unfold BM at hy;dsimp only at hy;rw[ip];have I7:m<len:=(by omega);have HM:Hid (m=len-1-k):=hm;clear hm ip;gi_wp2;refine hR.mono ?_;rintro e W3 (⟨rfl,EO,hk3⟩ | ⟨rfl,SQ⟩)
   ·gi_wp2
    go_roundw
    case rel=>exact⟨k+1,by omega,by have:=HM.out;simp;omega,by rw[ot,<-HM.out];exact EO,hnx.trans hk3⟩
    case measure=>simp[intOf]
   ·gi_wp2
    refine bodyPost_ret (results_none rfl _ _ _) rfl ?_;exact⟨⟨_,rfl⟩,.inr ⟨_,⟨k+1,by omega,by rw[ot,<-HM.out]⟩,SQ⟩⟩
  ·obtain rfl:k=len:=by omega
   gi_wp2
   go_end0;exact⟨⟨_,rfl⟩,.inl ⟨_,rfl,EM⟩⟩
theorem wY(F:Fence)(n:Nat)(h5:F.fn 159)(lw:F.round=none)(a:Option Addr)(len cap:Nat)(w:World):
  CallsIn F n Tryz.prog 159 #[.slice a len cap] w λe w'=>e=.returned (.func (.func 188) #[] #[.pointer (some ⟨w.heap.size,0,none⟩)])/\w'=w.alloc (.cells #[.slice a len cap] 25):=by
 refine callsIn_of_wp Tryz.func159 rfl h5 ?_ lw;simp only[Tryz.ntmps159,List.size_toArray,List.length_cons,List.length_nil,Nat.reduceAdd,Nat.reduceSub,Array.replicate_succ,Array.replicate_zero,List.push_toArray,List.append_toArray,List.nil_append,List.cons_append];gi_wp2;go_ret;exact⟨rfl,rfl⟩
theorem Al(F:Fence)(n:Nat)(h7:F.fn 188)(lw:F.round=none)(hn:1≤n)(Bs n₀ b off len cap:Nat)(f:Nat→Fin 256)(Is:len≤100000000)(w:World)(OV:Bs<w.heap.size)(hn₀:n₀≤w.heap.size)(hb:b<n₀)
  (hc:w.cell? ⟨Bs,0,none⟩=some (.slice (some ⟨b,off,none⟩) len cap)) (hI:∀j,j<len->w.cell? ⟨b,off+j,none⟩=some (.int .u8 ((f j).val:Int))):
  SeqStopsK F n Tryz.prog 188 #[.pointer (some ⟨Bs,0,none⟩)] BM (Holds n₀ Bs) (λys=>ys=upto (λj=>(len-1-j,f (len-1-j))) len)
   (λpre=>∃k,k<=len/\pre=upto (λj=>(len-1-j,f (len-1-j))) k) len w:=λl J Jx W hW _ _ hY h0=>by
 have EB:=(hW.cell (p:=⟨Bs,0,none⟩) OV).trans hc;exact Hh F n h7 lw hn l Bs n₀ b off len cap f Is hb J Jx hY W EB (λj hj=>(hW.cell (p:=⟨b,off+j,none⟩) (Nat.lt_of_lt_of_le hb hn₀)).trans (hI j hj)) h0
def vh(pre:List sd):Nat:=pre.foldl (λv p=>v*256 % 18446744073709551616+p.2.val) 0
theorem rF(pre:List sd)(x:sd):vh (pre++[x])=vh pre*256 % 18446744073709551616+x.2.val:=by simp[vh]
theorem Md(v x:Nat)(hx:x<256):(v*256 % 18446744073709551616) ||| x=v*256 % 18446744073709551616+x:=by
 have e:v*256 % 18446744073709551616=2 ^ 8*(v % 72057594037927936):=by omega
 rw[e,<-Nat.two_pow_add_eq_or_of_lt (i:=8) hx]
theorem L7(pre:List sd):vh pre<18446744073709551616:=by
 rcases List.eq_nil_or_concat pre with rfl | ⟨es,x,e⟩
 ·simp[vh]
 ·subst e;rw[List.concat_eq_append,rF];have:=x.2.isLt;omega
theorem LW(F:Fence)(m:Nat)(h3:F.fn 129)(h5:F.fn 159)(h7:F.fn 188)(lw:F.round=none)(hm:3≤m)(w:World)(b o len cap at' n:Nat)(f:Nat→Fin 256)
  (hI:∀j,j<len->w.cell? ⟨b,o+j,none⟩=some (.int .u8 ((f j).val:Int))) (ag:len<=100000000) (cD:len<=cap) (hn:n<=8) (nG:0<n) (hat:at'+n<=len) (Jh:b<w.heap.size):
  CallsIn F m Tryz.prog 129 #[.slice (some ⟨b,o,none⟩) len cap,.int .i64 (at':Nat),.int .i64 (n:Nat)] w λe W'=>e=.returned (.tuple #[.int .u64 (vh (upto (λj=>(n-1-j,f (at'+(n-1-j)))) n):Nat),.int .i64 0])/\Below w.heap.size w W':=by
 have h1:1<=m:=by omega
 refine callsIn_of_wp_marks Tryz.func129 rfl h3 ?_ lw;simp only[Tryz.ntmps129,List.size_toArray,List.length_cons,List.length_nil,Nat.reduceAdd,Nat.reduceSub,Array.replicate_succ,Array.replicate_zero,List.push_toArray,List.append_toArray,List.nil_append,List.cons_append];gi_wp2_with (gi_at_call 159;refine(wY F (m-1) h5 lw _ _ _ _).mono ?_;rintro e w' ⟨rfl,rfl⟩);have bS:=Boxed.new w 110 (.int .u64 0);have bN:=Boxed.new (w.alloc (.cells #[.int .u64 0] 110)) 25 (.slice (some ⟨b,o+at',none⟩) n (cap-at'));rw[World.size_alloc]at bN;have hB0:Below w.heap.size w ((w.alloc (.cells #[.int .u64 0] 110)).alloc (.cells #[.slice (some ⟨b,o+at',none⟩) n (cap-at')] 25)):=((Below.refl _ w).alloc (Nat.le_refl _) _).alloc (by simp) _;have Ru:∀j,j<n->((w.alloc (.cells #[.int .u64 0] 110)).alloc (.cells #[.slice (some ⟨b,o+at',none⟩) n (cap-at')] 25)).cell? ⟨b,o+at'+j,none⟩=some (.int .u8 ((f (at'+j)).val:Int)):=by intro j hj;rw[hB0.cell (p:=⟨b,o+at'+j,none⟩) Jh,Nat.add_assoc];exact hI (at'+j) (by omega)
 refine wpIn_rangeFunc_ownG lw h1 (gf:=188) (lb:=#[.pointer (some ⟨w.heap.size+1,0,none⟩)]) rfl h7 (enters_of Tryz.func188 (by kernel_rfl) rfl)
  (Al F (m-1) h7 lw (by omega) (w.heap.size+1) w.heap.size b (o+at') n (cap-at') (λj=>f (at'+j)) (by omega) _ (by simp) (by simp;omega) Jh bN.cell Ru) Holds.trans (Holds.put (by simp;omega) (by simp)) (Below.refl _ _) (λ_=>rfl)
  (λpre W=>(W.cell? ⟨w.heap.size,0,none⟩=some (.int .u64 (vh pre:Nat))/\W.frozen? ⟨w.heap.size,0,none⟩=false)/\Below w.heap.size w W)
  (λ_ _ _=>False)
  (OwnFrom.and (Own.from (λs A B row hs hg hr=>⟨cell_kept hs.1 hg hr,(frozen_kept hs.1 hg hr).trans hs.2⟩) _) (ownFrom_below (Nat.le_refl _) (by simp;omega)))
  (λ_ _ _ _ _ hs _ _=>hs)
  ⟨⟨(bS.alloc _).cell,(bS.alloc _).frozen⟩,hB0⟩
  (λx=>{tmps:=#[.slice (some ⟨b,o,none⟩) len cap,.int .i64 (at':Nat),.int .i64 (n:Nat),undef,undef,undef,.int .u64 0,.int .i64 0,.pointer (some ⟨w.heap.size,0,none⟩),undef,.int .u8 (x.2.val:Int),.int .i64 (at':Nat),
   .bool (decide ((at':Int)<0)),.bool (decide ((at':Int)<0)),.int .i64 (at':Nat),.slice (some ⟨b,o,none⟩) len cap,.int .i64 (len:Nat),.int .i64 (n:Nat),.int .i64 ((len:Int)-(n:Int)),.bool (decide ((len:Int)-(n:Int)<(at':Int))),
   .bool (decide ((at':Int)<0) || decide ((len:Int)-(n:Int)<(at':Int))),.slice (some ⟨b,o,none⟩) len cap,.int .i64 (at':Nat),.int .i64 (at':Nat),.int .i64 (n:Nat),.int .i64 ((at':Int)+(n:Int)),
   .slice (some ⟨b,o+at',none⟩) n (cap-at'),.func (.func 188) #[] #[.pointer (some ⟨w.heap.size+1,0,none⟩)],.int .i64 (x.1:Int),.int .u8 (x.2.val:Int),undef,undef,undef,undef,undef,undef],defers:=[]}) ?assign ?body ?done ?stop
 case assign=>
  intro l x W K hK;unfold BM;gi_wp2;exact hK
 case body=>
  rintro l pre x W ⟨⟨hc,hf⟩,hB⟩ _;have sq:=x.2.isLt;have hal:=L7 pre;obtain⟨y,hy⟩:∃y,y=x.2.val:=⟨_,rfl⟩
  have HY:Hid (y=x.2.val):=hy;rw[<-hy]at sq ⊢;obtain⟨v,hv⟩:∃v,v=vh pre:=⟨_,rfl⟩
  have HV:Hid (v=vh pre):=hv;rw[<-hv]at hc hal;clear hy hv;gi_wp2;have e:bits .or .u64 (IntKind.u64.wrap ((v:Int)*256)) (y:Int)=((vh (pre++[x]):Nat):Int):=(by rw[IntKind.wrap_u64];have e1:(v:Int)*256 % 18446744073709551616=((v*256 % 18446744073709551616:Nat):Int):=(by omega);rw[e1,u64_or_nat _ _ (by omega) (by omega),Md v y sq,rF,<-HV.out,<-HY.out]);rw[e];exact⟨(KeepsOthers.setCell _ _ _).from _,Holds.set _ _ (Nat.le_refl _) (by simp),⟨World.cell?_setCell_same' _ _ _ (by rw[hc];rfl),by rw[World.frozen?_setCell];exact hf⟩,hB.setCell (p:=⟨w.heap.size,0,none⟩) (Nat.le_refl _) _⟩
 case done=>
  rintro D ys W hD rfl ⟨⟨hc,_⟩,hB⟩ hK;gi_wp2;refine⟨by simp,.inl ⟨_,_,rfl,run_takeDeferred hK,?_⟩⟩;exact⟨_,results_tmp2 rfl _ _ _,rfl,hB.trans (belowK_b (w:=w) (Nat.le_refl _) W D _ _ (by simp at hD;omega) hK rfl rfl)⟩
 case stop=>
  rintro D c pre W _ _ h _;exact h.elim
end Go.Proofs.YtkhagfgineifhaaGreatDoor
