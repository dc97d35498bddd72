import Derived.RangeFuncBox
import Derived.Laws.BitsAllLaws
import Derived.RangeFuncLeaves
import Derived.Shelf.Abstract
import Derived.WalkKit
import Derived.OwnWalkIn
import Derived.TacticsInMore
import Derived.LoopNIn
import Derived.LoopIn
import Derived.WalkLawsBesides
import Derived.Test.YtkhagfgineifhaaGreatDoorJ3
set_option maxHeartbeats 2000000
set_option maxRecDepth 100000
namespace Go.Proofs.YtkhagfgineifhaaGreatDoor
open Go.RowKit Go.Shelf
attribute [local go_sem] Oper.semAt_some
abbrev sd:=Nat×Fin 256
def BM(x:sd):Array Value:=#[.int .i64 (x.1:Int),.int .u8 (x.2.val:Int)]
def upto(f:Nat->sd)(k:Nat):List sd:=(List.range k).map f
theorem ot(f:Nat->sd)(k:Nat):upto f (k+1)=upto f k++[f k]:=by simp[upto,List.range_succ]
theorem wG(f:Nat->sd)(k:Nat):(upto f k).length=k:=by simp[upto]
def Holds(n₀ B:Nat)(W W':World):Prop:=Below n₀ W W'/\W'.heap[B]? = W.heap[B]?
theorem Holds.trans{n₀ B:Nat}{X Y Z:World}(h:Holds n₀ B X Y)(k:Holds n₀ B Y Z):Holds n₀ B X Z:=⟨h.1.trans k.1,k.2.trans h.2⟩
theorem Holds.put{n₀ B:Nat}{w:World}(hn:n₀<=w.heap.size)(hB:B<w.heap.size)(W:World)(l:Nat)(o o':Obj)(hl:w.heap.size<=l)(h:W.heap[l]? = some o)(h1:o.isCells=false)(h2:o.isWalk=false):Holds n₀ B W (W.putObj l o'):=by have hlt:=(Array.getElem?_eq_some_iff.1 h).1;exact⟨belowK_b hn W l o o' hl h h1 h2,(grownBy_putObj' W l o').block B (by omega) (λe=>by cases e;omega)⟩
theorem Holds.set{n₀ B:Nat}{W:World}(p:Addr)(v:Value)(h1:n₀<=p.block)(h2:B≠p.block):Holds n₀ B W (W.setCell p v):=
 ⟨(Below.refl n₀ W).setCell (p:=p) h1 v,Below.heap_setCell _ _ _ _ (λe=>h2 e)⟩
theorem Hh(F:Fence)(n:Nat)(h7:F.fn 188)(lw:F.round=none)(hn:1≤n)(l Bs n₀ b off len cap:Nat)(f:Nat→Fin 256)(Is:len≤100000000)(hb:b<n₀)(J Jx:List sd→World→Prop)
  (hY:∀pre x W,J pre W->pre.length<len->YieldAt F (n-1) Tryz.prog l (BM x) W λe W'=>
   (e=.returned (.bool true)/\J (pre++[x]) W'/\Holds n₀ Bs W W')\/(e=.returned (.bool false)/\Jx (pre++[x]) W'))
  (W:World) (OV:W.cell? ⟨Bs,0,none⟩=some (.slice (some ⟨b,off,none⟩) len cap)) (hc:∀j,j<len->W.cell? ⟨b,off+j,none⟩=some (.int .u8 ((f j).val:Int))) (h0:J [] W):
  CallsIn F n Tryz.prog 188 #[.func (.yield l) #[] #[],.pointer (some ⟨Bs,0,none⟩)] W λe W'=>(∃v,e=.returned v) /\
   ((∃ys,ys=upto (λj=>(len-1-j,f (len-1-j))) len/\J ys W')\/(∃pre,(∃k,k<=len/\pre=upto (λj=>(len-1-j,f (len-1-j))) k)/\Jx pre W')):=by
 refine callsIn_of_wp Tryz.func188 rfl h7 ?_ lw;simp only[Tryz.ntmps188,List.size_toArray,List.length_cons,List.length_nil,Nat.reduceAdd,Nat.reduceSub,Array.replicate_succ,Array.replicate_zero,List.push_toArray,List.append_toArray,List.nil_append,List.cons_append];gi_wp2;gi_loopw [3] (λi wr=>∃k:Nat,k<=len/\i=.int .i64 ((len:Int)-1-k)/\J (upto (λj=>(len-1-j,f (len-1-j))) k) wr/\Holds n₀ Bs W wr)
  (λi _=>(intOf i+1).toNat)
 case atStart=>exact⟨0,Nat.zero_le _,by simp,h0,Below.refl _ _,rfl⟩
 case round=>
  obtain⟨k,hk,rfl,EM,hnx⟩:=hrel;have Qr:=(World.cell?_of_block (a:=⟨Bs,0,none⟩) hnx.2).trans OV;by_cases hlt:k<len
  ·obtain⟨m,hm⟩:∃m,m=len-1-k:=⟨_,rfl⟩
   have ip:(len:Int)-1-k=(m:Nat):=(by omega);obtain⟨fn,tmps,assign,body,hy,hR⟩:=hY _ (m,f m) wr EM (by rw[wG];exact hlt);have rN:wr.cell? ⟨b,off+m,none⟩=some (.int .u8 ((f m).val:Int)):=(hnx.1.cell (p:=⟨b,off+m,none⟩) hb).trans (hc m (by omega));unfold BM at hy;dsimp only at hy;rw[ip];have I7:m<len:=(by omega);have HM:Hid (m=len-1-k):=hm;clear hm ip;gi_wp2;refine hR.mono ?_;rintro e W3 (⟨rfl,EO,hk3⟩ | ⟨rfl,SQ⟩)
   ·gi_wp2
    go_roundw
    case rel=>exact⟨k+1,by omega,by have:=HM.out;simp;omega,by rw[ot,<-HM.out];exact EO,hnx.trans hk3⟩
    case measure=>simp[intOf]
   ·gi_wp2
    refine bodyPost_ret (results_none rfl _ _ _) rfl ?_;exact⟨⟨_,rfl⟩,.inr ⟨_,⟨k+1,by omega,by rw[ot,<-HM.out]⟩,SQ⟩⟩
  ·obtain rfl:k=len:=by omega
   gi_wp2
   go_end0;exact⟨⟨_,rfl⟩,.inl ⟨_,rfl,EM⟩⟩
theorem wY(F:Fence)(n:Nat)(h5:F.fn 159)(lw:F.round=none)(a:Option Addr)(len cap:Nat)(w:World):
  CallsIn F n Tryz.prog 159 #[.slice a len cap] w λe w'=>e=.returned (.func (.func 188) #[] #[.pointer (some ⟨w.heap.size,0,none⟩)])/\w'=w.alloc (.cells #[.slice a len cap] 25):=by
 refine callsIn_of_wp Tryz.func159 rfl h5 ?_ lw;simp only[Tryz.ntmps159,List.size_toArray,List.length_cons,List.length_nil,Nat.reduceAdd,Nat.reduceSub,Array.replicate_succ,Array.replicate_zero,List.push_toArray,List.append_toArray,List.nil_append,List.cons_append];gi_wp2;go_ret;exact⟨rfl,rfl⟩
theorem Al(F:Fence)(n:Nat)(h7:F.fn 188)(lw:F.round=none)(hn:1≤n)(Bs n₀ b off len cap:Nat)(f:Nat→Fin 256)(Is:len≤100000000)(w:World)(OV:Bs<w.heap.size)(hn₀:n₀≤w.heap.size)(hb:b<n₀)
  (hc:w.cell? ⟨Bs,0,none⟩=some (.slice (some ⟨b,off,none⟩) len cap)) (hI:∀j,j<len->w.cell? ⟨b,off+j,none⟩=some (.int .u8 ((f j).val:Int))):
  SeqStopsK F n Tryz.prog 188 #[.pointer (some ⟨Bs,0,none⟩)] BM (Holds n₀ Bs) (λys=>ys=upto (λj=>(len-1-j,f (len-1-j))) len)
   (λpre=>∃k,k<=len/\pre=upto (λj=>(len-1-j,f (len-1-j))) k) len w:=λl J Jx W hW _ _ hY h0=>by
 have EB:=(hW.cell (p:=⟨Bs,0,none⟩) OV).trans hc;exact Hh F n h7 lw hn l Bs n₀ b off len cap f Is hb J Jx hY W EB (λj hj=>(hW.cell (p:=⟨b,off+j,none⟩) (Nat.lt_of_lt_of_le hb hn₀)).trans (hI j hj)) h0
def vh(pre:List sd):Nat:=pre.foldl (λv p=>v*256 % 18446744073709551616+p.2.val) 0
theorem rF(pre:List sd)(x:sd):vh (pre++[x])=vh pre*256 % 18446744073709551616+x.2.val:=by simp[vh]
theorem Md(v x:Nat)(hx:x<256):(v*256 % 18446744073709551616) ||| x=v*256 % 18446744073709551616+x:=by
 have e:v*256 % 18446744073709551616=2 ^ 8*(v % 72057594037927936):=by omega
 rw[e,<-Nat.two_pow_add_eq_or_of_lt (i:=8) hx]
theorem L7(pre:List sd):vh pre<18446744073709551616:=by
 rcases List.eq_nil_or_concat pre with rfl | ⟨es,x,e⟩
 ·simp[vh]
 ·subst e;rw[List.concat_eq_append,rF];have:=x.2.isLt;omega
theorem LW(F:Fence)(m:Nat)(h3:F.fn 129)(h5:F.fn 159)(h7:F.fn 188)(lw:F.round=none)(hm:3≤m)(w:World)(b o len cap at' n:Nat)(f:Nat→Fin 256)
  (hI:∀j,j<len->w.cell? ⟨b,o+j,none⟩=some (.int .u8 ((f j).val:Int))) (ag:len<=100000000) (cD:len<=cap) (hn:n<=8) (nG:0<n) (hat:at'+n<=len) (Jh:b<w.heap.size):
  CallsIn F m Tryz.prog 129 #[.slice (some ⟨b,o,none⟩) len cap,.int .i64 (at':Nat),.int .i64 (n:Nat)] w λe W'=>e=.returned (.tuple #[.int .u64 (vh (upto (λj=>(n-1-j,f (at'+(n-1-j)))) n):Nat),.int .i64 0])/\Below w.heap.size w W':=by
 have h1:1<=m:=by omega
 refine callsIn_of_wp_marks Tryz.func129 rfl h3 ?_ lw;simp only[Tryz.ntmps129,List.size_toArray,List.length_cons,List.length_nil,Nat.reduceAdd,Nat.reduceSub,Array.replicate_succ,Array.replicate_zero,List.push_toArray,List.append_toArray,List.nil_append,List.cons_append];gi_wp2_with (gi_at_call 159;refine(wY F (m-1) h5 lw _ _ _ _).mono ?_;rintro e w' ⟨rfl,rfl⟩);have bS:=Boxed.new w 110 (.int .u64 0);have bN:=Boxed.new (w.alloc (.cells #[.int .u64 0] 110)) 25 (.slice (some ⟨b,o+at',none⟩) n (cap-at'));rw[World.size_alloc]at bN;have hB0:Below w.heap.size w ((w.alloc (.cells #[.int .u64 0] 110)).alloc (.cells #[.slice (some ⟨b,o+at',none⟩) n (cap-at')] 25)):=((Below.refl _ w).alloc (Nat.le_refl _) _).alloc (by simp) _;have Ru:∀j,j<n->((w.alloc (.cells #[.int .u64 0] 110)).alloc (.cells #[.slice (some ⟨b,o+at',none⟩) n (cap-at')] 25)).cell? ⟨b,o+at'+j,none⟩=some (.int .u8 ((f (at'+j)).val:Int)):=by intro j hj;rw[hB0.cell (p:=⟨b,o+at'+j,none⟩) Jh,Nat.add_assoc];exact hI (at'+j) (by omega)
 refine wpIn_rangeFunc_ownG lw h1 (gf:=188) (lb:=#[.pointer (some ⟨w.heap.size+1,0,none⟩)]) rfl h7 (enters_of Tryz.func188 (by kernel_rfl) rfl)
  (Al F (m-1) h7 lw (by omega) (w.heap.size+1) w.heap.size b (o+at') n (cap-at') (λj=>f (at'+j)) (by omega) _ (by simp) (by simp;omega) Jh bN.cell Ru) Holds.trans (Holds.put (by simp;omega) (by simp)) (Below.refl _ _) (λ_=>rfl)
  (λpre W=>(W.cell? ⟨w.heap.size,0,none⟩=some (.int .u64 (vh pre:Nat))/\W.frozen? ⟨w.heap.size,0,none⟩=false)/\Below w.heap.size w W)
  (λ_ _ _=>False)
  (OwnFrom.and (Own.from (λs A B row hs hg hr=>⟨cell_kept hs.1 hg hr,(frozen_kept hs.1 hg hr).trans hs.2⟩) _) (ownFrom_below (Nat.le_refl _) (by simp;omega)))
  (λ_ _ _ _ _ hs _ _=>hs)
  ⟨⟨(bS.alloc _).cell,(bS.alloc _).frozen⟩,hB0⟩
  (λx=>{tmps:=#[.slice (some ⟨b,o,none⟩) len cap,.int .i64 (at':Nat),.int .i64 (n:Nat),undef,undef,undef,.int .u64 0,.int .i64 0,.pointer (some ⟨w.heap.size,0,none⟩),undef,.int .u8 (x.2.val:Int),.int .i64 (at':Nat),
   .bool (decide ((at':Int)<0)),.bool (decide ((at':Int)<0)),.int .i64 (at':Nat),.slice (some ⟨b,o,none⟩) len cap,.int .i64 (len:Nat),.int .i64 (n:Nat),.int .i64 ((len:Int)-(n:Int)),.bool (decide ((len:Int)-(n:Int)<(at':Int))),
   .bool (decide ((at':Int)<0) || decide ((len:Int)-(n:Int)<(at':Int))),.slice (some ⟨b,o,none⟩) len cap,.int .i64 (at':Nat),.int .i64 (at':Nat),.int .i64 (n:Nat),.int .i64 ((at':Int)+(n:Int)),
   .slice (some ⟨b,o+at',none⟩) n (cap-at'),.func (.func 188) #[] #[.pointer (some ⟨w.heap.size+1,0,none⟩)],.int .i64 (x.1:Int),.int .u8 (x.2.val:Int),undef,undef,undef,undef,undef,undef],defers:=[]}) ?assign ?body ?done ?stop
 case assign=>
  intro l x W K hK;unfold BM;gi_wp2;exact hK
 case body=>
  rintro l pre x W ⟨⟨hc,hf⟩,hB⟩ _;have sq:=x.2.isLt;have hal:=L7 pre;obtain⟨y,hy⟩:∃y,y=x.2.val:=⟨_,rfl⟩
  have HY:Hid (y=x.2.val):=hy;rw[<-hy]at sq ⊢;obtain⟨v,hv⟩:∃v,v=vh pre:=⟨_,rfl⟩
  have HV:Hid (v=vh pre):=hv;rw[<-hv]at hc hal;clear hy hv;gi_wp2;have e:bits .or .u64 (IntKind.u64.wrap ((v:Int)*256)) (y:Int)=((vh (pre++[x]):Nat):Int):=(by rw[IntKind.wrap_u64];have e1:(v:Int)*256 % 18446744073709551616=((v*256 % 18446744073709551616:Nat):Int):=(by omega);rw[e1,u64_or_nat _ _ (by omega) (by omega),Md v y sq,rF,<-HV.out,<-HY.out]);rw[e];exact⟨(KeepsOthers.setCell _ _ _).from _,Holds.set _ _ (Nat.le_refl _) (by simp),⟨World.cell?_setCell_same' _ _ _ (by rw[hc];rfl),by rw[World.frozen?_setCell];exact hf⟩,hB.setCell (p:=⟨w.heap.size,0,none⟩) (Nat.le_refl _) _⟩
 case done=>
  rintro D ys W hD rfl ⟨⟨hc,_⟩,hB⟩ hK;gi_wp2;refine⟨by simp,.inl ⟨_,_,rfl,run_takeDeferred hK,?_⟩⟩;exact⟨_,results_tmp2 rfl _ _ _,rfl,hB.trans (belowK_b (w:=w) (Nat.le_refl _) W D _ _ (by simp at hD;omega) hK rfl rfl)⟩
 case stop=>
  rintro D c pre W _ _ h _;exact h.elim
theorem wN(k a:Nat)(g:Nat->Nat):(List.range (k+1)).map (λj=>g (a+j))=g a::(List.range k).map (λj=>g (a+1+j)):=by rw[List.range_succ_eq_map];simp only[List.map_cons,List.map_map,Nat.add_zero,List.cons.injEq,true_and];apply List.map_congr_left;intro j _;simp only[Function.comp];congr 1;omega
theorem Fw(f:Nat→Fin 256)(a n:Nat)(hn:n≤8)(k:Nat)(hk:k≤n):
  vh (upto (λj=>(n-1-j,f (a+(n-1-j)))) k)=aO ((List.range k).map (λj=>(f (a+(n-k)+j)).val)):=by
 induction k with
 | zero=>rfl
 | succ k ih=>
  have e:=wN k (a+(n-(k+1))) (λj=>(f j).val);rw[ot,rF,ih (by omega),e,aO];have hlt:aO ((List.range k).map (λj=>(f (a+(n-k)+j)).val))<256 ^ ((List.range k).map (λj=>(f (a+(n-k)+j)).val)).length:=(by apply mL;intro b hb;obtain⟨j,_,rfl⟩:=List.mem_map.1 hb;exact(f _).isLt);rw[List.length_map,List.length_range]at hlt;have Vj:(256:Nat) ^ k<=256 ^ 7:=Nat.pow_le_pow_right (by omega) (by omega);have h7:(256:Nat) ^ 7=72057594037927936:=(by decide);have e1:a+(n-(k+1))+1=a+(n-k):=(by omega);have e2:a+(n-1-k)=a+(n-(k+1)):=(by omega);rw[e1];show aO _*256 % 18446744073709551616+(f (a+(n-1-k))).val=_;rw[e2];omega
def ra(cs:List Nat)(j:Nat):Fin 256:=⟨cs[j]?.getD 0 % 256,Nat.mod_lt _ (by decide)⟩
theorem qE(cs:List Nat)(hb:∀b∈cs,b<256)(j:Nat)(hj:j<cs.length):(ra cs j).val=cs[j]:=by simp only[ra,List.getElem?_eq_getElem hj,Option.getD_some];exact Nat.mod_eq_of_lt (hb _ (List.getElem_mem hj))
theorem zY(cs:List Nat)(hb:∀b∈cs,b<256)(a n:Nat)(h:a+n<=cs.length):(List.range n).map (λj=>(ra cs (a+j)).val)=(cs.drop a).take n:=by
 apply List.ext_getElem
 ·simp;omega
 ·intro i h1 h2;simp only[List.length_map,List.length_range]at h1;simp only[List.getElem_map,List.getElem_range,List.getElem_take,List.getElem_drop];exact qE cs hb _ (by omega)
theorem Fl(w:World)(v:Value)(I:Nat→Prop)(cs:List Nat)(hsrc:Src w I v cs)(iD:∀a n c,v=.slice a n c→n≤c)(hb:∀b∈cs,b<256)(ag:cs.length≤100000000)(a n:Nat)(hn:n≤8)(nG:0<n)(h:a+n≤cs.length):
  Calls Tryz.prog 129 #[v,.int .i64 (a:Nat),.int .i64 (n:Nat)] w λe w'=>e=.returned (.tuple #[.int .u64 (eG cs a n:Nat),.int .i64 0])/\Below w.heap.size w w':=by
 obtain⟨ao,cap,rfl,Jm⟩:=hsrc;obtain⟨b,o,rfl,_,pJ⟩:=Jm (by intro e;rw[e]at h;simp at h;omega);have Jh:b<w.heap.size:=World.block_lt_of_cell? w _ (pJ a (by omega));refine(callsIn_wide (n:=3)).1 ?_;refine(LW Fence.wide 3 trivial trivial trivial rfl (by omega) w b o cs.length cap a n (ra cs) (λj hj=>by rw[qE cs hb j hj];exact pJ j hj) ag (iD _ _ _ rfl) hn nG h Jh).mono ?_;rintro e w' ⟨rfl,uR⟩;have e1:=Fw (ra cs) a n hn n (Nat.le_refl _);rw[Nat.sub_self,Nat.add_zero,zY cs hb a n h]at e1;refine⟨?_,uR⟩;rw[e1];rfl
theorem Jp(w:World)(ao:Option Addr)(len cap n:Nat)(z:Int)(hn:n≤8)(ag:len≤100000000)(h:z<0∨(len:Int)-(n:Int)<z):
  Calls Tryz.prog 129 #[.slice ao len cap,.int .i64 z,.int .i64 (n:Nat)] w λe w'=>e=.returned (.tuple #[.int .u64 0,.int .i64 20])/\w'=w:=by
 by_cases h0:z<0
 ·have Cq:decide (z<0)=true:=(by simpa using h0);clear h;go_enter Tryz.func129,Tryz.ntmps129;go_wp2_with fail;go_ret2;exact⟨rfl,rfl⟩
 ·have Cq:decide (z<0)=false:=(by simpa using h0);have pz:decide ((len:Int)-(n:Int)<z)=true:=(by simp;omega);clear h;go_enter Tryz.func129,Tryz.ntmps129;go_wp2_with fail;go_ret2;exact⟨rfl,rfl⟩
def rn(cs:List Nat)(z:Int)(n:Nat):Nat:=if 0<=z/\z+n<=cs.length then eG cs z.toNat n else 0
def tV(len:Nat)(z:Int)(n:Nat):Int:=if 0<=z/\z+n<=len then 0 else 20
theorem BD(cs:List Nat)(hb:∀b∈cs,b<256)(z:Int)(n:Nat):rn cs z n<256 ^ n:=by
 unfold rn;split
 ·exact JP cs hb _ n
 ·exact Nat.pow_pos (by omega)
theorem BU(w:World)(v:Value)(I:Nat→Prop)(cs:List Nat)(hsrc:Src w I v cs)(iD:∀a n c,v=.slice a n c→n≤c)(hb:∀b∈cs,b<256)(ag:cs.length≤100000000)(z:Int)(n:Nat)(hn:n≤8)(nG:0<n):
  Calls Tryz.prog 129 #[v,.int .i64 z,.int .i64 (n:Nat)] w λe w'=>e=.returned (.tuple #[.int .u64 (rn cs z n:Nat),.int .i64 (tV cs.length z n)])/\Below w.heap.size w w':=by
 by_cases h:0<=z/\z+n<=cs.length
 ·obtain⟨a,rfl⟩:∃a:Nat,z=a:=⟨z.toNat,by omega⟩
  refine(Fl w v I cs hsrc iD hb ag a n hn nG (by omega)).mono ?_;rintro e w' ⟨rfl,uR⟩;simp only[rn,tV,if_pos h];exact⟨rfl,uR⟩
 ·obtain⟨ao,cap,rfl,_⟩:=hsrc;refine(Jp w ao cs.length cap n z hn ag (by omega)).mono ?_;rintro e w' ⟨rfl,rfl⟩;simp only[rn,tV,if_neg h];exact⟨rfl,Below.refl _ _⟩
theorem DQ(w:World)(v:Value)(I:Nat→Prop)(cs:List Nat)(hsrc:Src w I v cs)(iD:∀a n c,v=.slice a n c→n≤c)(hb:∀b∈cs,b<256)(ag:cs.length≤100000000)(z:Int):
  Calls Tryz.prog 97 #[v,.int .i64 z] w λe w'=>e=.returned (.tuple #[.int .u16 (rn cs z 2:Nat),.int .i64 (tV cs.length z 2)])/\Below w.heap.size w w':=by
 have HC:=BU w v I cs hsrc iD hb ag z 2 (by omega) (by omega);have hV:=BD cs hb z 2;obtain⟨V,KO⟩:∃V,V=rn cs z 2:=⟨_,rfl⟩
 obtain⟨E,Nl⟩:∃E,E=tV cs.length z 2:=⟨_,rfl⟩
 rw[<-KO,<-Nl];rw[<-KO,<-Nl]at HC;rw[<-KO]at hV;have SH:V<65536:=hV;clear hV KO Nl;go_enter Tryz.func97,Tryz.ntmps97;go_wp2_with fail;refine HC.mono ?_;rintro e w' ⟨rfl,uR⟩;go_wp2_with fail;go_ret2;exact⟨by congr 4,uR⟩
theorem Es(w:World)(v:Value)(I:Nat→Prop)(cs:List Nat)(hsrc:Src w I v cs)(iD:∀a n c,v=.slice a n c→n≤c)(hb:∀b∈cs,b<256)(ag:cs.length≤100000000)(z:Int):
  Calls Tryz.prog 98 #[v,.int .i64 z] w λe w'=>e=.returned (.tuple #[.int .u32 (rn cs z 4:Nat),.int .i64 (tV cs.length z 4)])/\Below w.heap.size w w':=by
 have HC:=BU w v I cs hsrc iD hb ag z 4 (by omega) (by omega);have hV:=BD cs hb z 4;obtain⟨V,KO⟩:∃V,V=rn cs z 4:=⟨_,rfl⟩
 obtain⟨E,Nl⟩:∃E,E=tV cs.length z 4:=⟨_,rfl⟩
 rw[<-KO,<-Nl];rw[<-KO,<-Nl]at HC;rw[<-KO]at hV;have SH:V<4294967296:=hV;clear hV KO Nl;go_enter Tryz.func98,Tryz.ntmps98;go_wp2_with fail;refine HC.mono ?_;rintro e w' ⟨rfl,uR⟩;go_wp2_with fail;go_ret2;exact⟨by congr 4,uR⟩
end Go.Proofs.YtkhagfgineifhaaGreatDoor
namespace Go.Proofs.YtkhagfgineifhaaGreatDoor
open Go.RowKit
def aG(e:Nat):Ending:=.panicked [{v:=.iface 26 (.int .i64 (e:Nat)),recovered:=false}]
theorem bh(w:World)(z:Value):Calls Tryz.prog 29 #[.bool true,z] w λe w'=>e=.returned (.tuple #[])/\w'=w:=by go_enter Tryz.func29,Tryz.ntmps29;go_wp2_with fail;go_end0;exact⟨rfl,rfl⟩
theorem aL(w:World)(n:Nat):Calls Tryz.prog 29 #[.bool false,.int .i64 (n:Nat)] w λe w'=>e=aG n/\w'=w:=by go_enter Tryz.func29,Tryz.ntmps29;go_wp2_with fail;exact⟨rfl,rfl,rfl⟩
structure Cur(N:Nat)(w:World)(c:Nat)(r:List Nat)(a:Option Addr)(cap:Nat):Prop where
 blk:Blk w c #[.slice a r.length cap] 84
 src:Src w (λk=>k<N) (.slice a r.length cap) r
 room:r.length<=cap
 new:N<=c
 byte:∀b∈r,b<256
 len:r.length<=2000000
 adr:a≠none
theorem Cur.kept{F:Nat->Prop}{N:Nat}{w w':World}{c:Nat}{r:List Nat}{a:Option Addr}{cap:Nat}(h:Cur N w c r a cap)(hk:Kept F w w')(h1:¬F c)(h2:∀k,k<N->¬F k):Cur N w' c r a cap:=
 ⟨h.blk.kept hk h1,h.src.kept hk (λk hk _=>h2 k hk),h.room,h.new,h.byte,h.len,h.adr⟩
structure Tkn(N:Nat)(w:World)(v:Value)(n:Nat)(x:List Nat):Prop where
 src:Src w (λk=>k<N) v x
 room:∀a m c,v=.slice a m c->m<=c
 len:x.length=n
 byte:∀b∈x,b<256
 shp:∃a c,v=.slice a n c
 adr:∀m c,v≠.slice none m c
theorem Tkn.kept{F:Nat->Prop}{N:Nat}{w w':World}{v:Value}{n:Nat}{x:List Nat}(h:Tkn N w v n x)(hk:Kept F w w')(h2:∀k,k<N->¬F k):Tkn N w' v n x:=⟨h.src.kept hk (λk hk _=>h2 k hk),h.room,h.len,h.byte,h.shp,h.adr⟩
theorem xB{n:Nat}{r x y:List Nat}(h:fi n r=some (x,y)):n<=r.length/\x=r.take n/\y=r.drop n:=by
 unfold fi at h;split at h
 ·simp only[Option.some.injEq,Prod.mk.injEq]at h;exact⟨by assumption,h.1.symm,h.2.symm⟩
 ·cases h
theorem Ga{n:Nat}{r:List Nat}(h:fi n r=none):r.length<n:=by
 unfold fi at h;split at h
 ·cases h
 ·omega
theorem Src.head8{w:World}{I:Nat->Prop}{a:Option Addr}{n cap:Nat}{bs:List Nat}(h:Src w I (.slice a bs.length cap) bs)(hn:n<=bs.length)(c':Nat):Src w I (.slice a n c') (bs.take n):=by obtain⟨ao,c,e,hs⟩:=h;simp only[Value.slice.injEq]at e;obtain⟨rfl,_,rfl⟩:=e;refine⟨a,c',by rw[List.length_take,Nat.min_eq_left hn],λbm=>?_⟩;obtain⟨b,o,h1,h2,h3⟩:=hs (λe=>bm (by rw[e];simp));refine⟨b,o,h1,h2,λj hj=>?_⟩;rw[List.length_take]at hj;rw[h3 j (by omega),List.getElem_take]
theorem Src.tail8{w:World}{I:Nat->Prop}{a a':Option Addr}{n cap c':Nat}{bs:List Nat}(h:Src w I (.slice a bs.length cap) bs)(hn:n<=bs.length)(ha:n<bs.length->∃b o,a=some ⟨b,o,none⟩/\a'=some ⟨b,o+n,none⟩):Src w I (.slice a' (bs.length-n) c') (bs.drop n):=by
 obtain⟨ao,c,e,hs⟩:=h;simp only[Value.slice.injEq]at e;obtain⟨rfl,_,rfl⟩:=e;refine⟨a',c',by rw[List.length_drop],λbm=>?_⟩;have hlt:n<bs.length:=by refine Classical.byContradiction (λhc=>bm ?_);exact List.drop_eq_nil_of_le (by omega)
 obtain⟨b,o,h1,h2,h3⟩:=hs (λe=>by rw[e]at hlt;simp at hlt);obtain⟨b',o',h4,h5⟩:=ha hlt;rw[h1]at h4;simp only[Option.some.injEq,Addr.mk.injEq,and_true]at h4;obtain⟨rfl,rfl⟩:=h4;refine⟨b,o+n,h5,h2,λj hj=>?_⟩;rw[List.length_drop]at hj;have:=h3 (n+j) (by omega);rw[<-Nat.add_assoc]at this;rw[this,List.getElem_drop]
def TakZ(N:Nat)(w w':World)(c n:Nat)(r:List Nat)(e:Ending):Prop:=
 (∀x y,fi n r=some (x,y)->∃v a' cap',e=.returned v/\Tkn N w' v n x/\Cur N w' c y a' cap'/\Kept (·=c) w w')/\(fi n r=none->e=aG 81/\Same w w')
theorem TakZ.good{N:Nat}{w w':World}{c n:Nat}{r x y:List Nat}{e:Ending}(ht:fi n r=some (x,y)){v:Value}{a':Option Addr}{cap':Nat}(he:e=.returned v)(h1:Tkn N w' v n x)(h2:Cur N w' c y a' cap')(h3:Kept (·=c) w w'):TakZ N w w' c n r e:=
 ⟨λx' y' h=>by rw[ht]at h;simp only[Option.some.injEq,Prod.mk.injEq]at h;obtain⟨rfl,rfl⟩:=h;exact⟨v,a',cap',he,h1,h2,h3⟩,λh=>by rw[ht]at h;cases h⟩
theorem TakZ.bad{N:Nat}{w w':World}{c n:Nat}{r:List Nat}{e:Ending}(ht:fi n r=none)(he:e=aG 81)(h3:Same w w'):TakZ N w w' c n r e:=
 ⟨λx' y' h=>(by rw[ht]at h;cases h),λ_=>⟨he,h3⟩⟩
theorem Cur.cut{N:Nat}{w:World}{c:Nat}{r:List Nat}{a a':Option Addr}{cap n:Nat}(h:Cur N w c r a cap)(hn:n<=r.length)(ha:n<r.length->∃b o,a=some ⟨b,o,none⟩/\a'=some ⟨b,o+n,none⟩)(Sf:a'≠none)(u:Value)(hu:u=.slice a' (r.length-n) (cap-n)):Tkn N (w.setCell ⟨c,0,none⟩ u) (.slice a n cap) n (r.take n)/\Cur N (w.setCell ⟨c,0,none⟩ u) c (r.drop n) a' (cap-n)/\Kept (·=c) w (w.setCell ⟨c,0,none⟩ u):=by
 have hk:Kept (·=c) w (w.setCell ⟨c,0,none⟩ u):=(Kept.refl (·=c) w).setCell _ _ (.inl rfl);have hN:=h.new;have hr:=h.room;refine⟨⟨(h.src.head8 hn cap).kept hk (λk h1 _ e=>by omega),λa9 m9 c9 e9=>by simp only[Value.slice.injEq]at e9;omega,by rw[List.length_take,Nat.min_eq_left hn],λb hb=>h.byte b (List.mem_of_mem_take hb),⟨a,cap,rfl⟩,λm c e=>h.adr (by simp only[Value.slice.injEq]at e;exact e.1)⟩,⟨?_,?_,by rw[List.length_drop];omega,hN,λb hb=>h.byte b (List.mem_of_mem_drop hb),by have:=h.len;rw[List.length_drop];omega,Sf⟩,hk⟩
 ·have:=h.blk.set 0 u;rw[List.length_drop,<-hu];simpa using this
 ·have h9:=h.src.tail8 (a':=a') (c':=cap-n) hn ha;rw[List.length_drop];exact h9.kept hk (λk h1 _ e=>by omega)
theorem eE(N:Nat)(w:World)(c:Nat)(r:List Nat)(a:Option Addr)(cap n:Nat)(h:Cur N w c r a cap)(hn:n≤2000000):
  Calls Tryz.prog 71 #[.pointer (some ⟨c,0,none⟩),.int .i64 (n:Nat)] w λe w'=>TakZ N w w' c n r e:=by
 have c0:=h.blk.cell 0;have z0:=h.blk.frozen 0;simp at c0;have HC:Hid (Cur N w c r a cap):=h;obtain⟨L,hL⟩:∃L,L=r.length:=⟨_,rfl⟩
 have HLr:Hid (L=r.length):=hL;have Q9:L<=2000000:=by have:=h.len;omega
 have ZU:L<=cap:=by have:=h.room;omega
 rw[<-hL]at c0;clear h;cases ht:fi n r with
 | none=>
  have HTK:Hid (fi n r=none):=ht;have hlt:=Ga ht;have b2:decide (n<=L)=false:=(by simp;omega);have HB:=aL w 81;clear hlt ht hL;go_enter Tryz.func71,Tryz.ntmps71;go_wp2_with fail;refine HB.mono ?_;rintro e w1 ⟨rfl,hw1⟩;subst hw1;unfold aG;go_wp2_with fail;exact⟨rfl,TakZ.bad HTK.out rfl (Kept.refl _ _)⟩
 | some p=>
  obtain⟨x,y⟩:=p;have HTK:Hid (fi n r=some (x,y)):=ht;obtain⟨mr,hx,hy⟩:=xB ht;have HXY:Hid (n<=r.length/\x=r.take n/\y=r.drop n):=hid ⟨mr,hx,hy⟩;have b2:decide (n<=L)=true:=(by simp;omega);have HOK:=bh w (.int .i64 81);have Fb:n<=cap:=(by omega);have i1:(0:Int)<=(n:Int):=(by omega);have i2:(n:Int)<=(cap:Int):=(by omega);have i3:(n:Int)<=(L:Int):=(by omega);have i4:(L:Int)<=(cap:Int):=(by omega);have HAD:Hid (n<r.length->∃b o,a=some ⟨b,o,none⟩):=hid (λh8=>by
   obtain⟨ao,co,e9,h9⟩:=HC.out.src;simp only[Value.slice.injEq]at e9;obtain⟨b,o,h1,_⟩:=h9 (λe=>by rw[e]at h8;simp at h8);exact⟨b,o,by rw[e9.1];exact h1⟩)
  clear ht hL mr hx hy;by_cases tN:cap=n
  ·obtain rfl:L=n:=by omega
   subst tN;go_enter Tryz.func71,Tryz.ntmps71;go_wp2_with fail;refine HOK.mono ?_;rintro e w1 ⟨rfl,hw1⟩;subst hw1;clear HOK;go_wp2_with fail;go_ret;have OI:=HLr.out;obtain⟨h1,h2,h3⟩:=HC.out.cut (n:=cap) (a':=a) HXY.out.1 (λh8=>by omega) HC.out.adr (.slice a 0 0) (by rw[<-OI];simp);exact TakZ.good HTK.out rfl (by rw[HXY.out.2.1];exact h1) (by rw[HXY.out.2.2];exact h2) h3
  ·go_enter Tryz.func71,Tryz.ntmps71;go_wp2_with fail;refine HOK.mono ?_;rintro e w1 ⟨rfl,hw1⟩;subst hw1;clear HOK;go_wp2_with fail;go_ret;have OI:=HLr.out;obtain⟨h1,h2,h3⟩:=HC.out.cut (n:=n) (a':=a.map (Addr.add · n)) HXY.out.1 (λh8=>by obtain⟨b9,o9,Fa⟩:=HAD.out h8;exact⟨b9,o9,Fa,by rw[Fa];simp[cf]⟩) (λe=>HC.out.adr (by cases h9:a with | none=>rfl | some x=>rw[h9]at e;cases e)) (.slice (a.map (Addr.add · n)) (L-n) (cap-n)) (by rw[<-OI]);exact TakZ.good HTK.out rfl (by rw[HXY.out.2.1];exact h1) (by rw[HXY.out.2.2];exact h2) h3
theorem qu{w w':World}(h:Below w.heap.size w w'):Same w w':=⟨h.os,h.tape,h.output,h.size,λk hk _=>h.block k hk⟩
def NumZ(N:Nat)(w w':World)(c n:Nat)(k:IntKind)(r:List Nat)(e:Ending):Prop:=
 (∀x y,dY n r=some (x,y)->∃a' cap',e=.returned (.int k (x:Nat))/\x<256 ^ n/\Cur N w' c y a' cap'/\Kept (·=c) w w')/\(dY n r=none->e=aG 81/\Same w w')
theorem NumZ.good{N:Nat}{w w':World}{c n x:Nat}{k:IntKind}{r y:List Nat}{e:Ending}(ht:dY n r=some (x,y)){a':Option Addr}{cap':Nat}(he:e=.returned (.int k (x:Nat)))(h1:x<256 ^ n)(h2:Cur N w' c y a' cap')(h3:Kept (·=c) w w'):NumZ N w w' c n k r e:=
 ⟨λx' y' h=>by rw[ht]at h;simp only[Option.some.injEq,Prod.mk.injEq]at h;obtain⟨rfl,rfl⟩:=h;exact⟨a',cap',he,h1,h2,h3⟩,λh=>by rw[ht]at h;cases h⟩
theorem NumZ.bad{N:Nat}{w w':World}{c n:Nat}{k:IntKind}{r:List Nat}{e:Ending}(ht:dY n r=none)(he:e=aG 81)(h3:Same w w'):NumZ N w w' c n k r e:=
 ⟨λx' y' h=>(by rw[ht]at h;cases h),λ_=>⟨he,h3⟩⟩
theorem Gb{n:Nat}{r x y:List Nat}(h:fi n r=some (x,y)):dY n r=some (aO x,y):=by unfold dY;rw[h]
theorem Hw{n:Nat}{r:List Nat}(h:fi n r=none):dY n r=none:=by unfold dY;rw[h]
theorem wV(x:List Nat)(n:Nat)(h:x.length=n):rn x 0 n=aO x:=by unfold rn eG;rw[if_pos (by omega)];simp only[Int.toNat_zero,List.drop_zero];rw[List.take_of_length_le (by omega)]
theorem kG(N:Nat)(w:World)(c:Nat)(r:List Nat)(a:Option Addr)(cap:Nat)(h:Cur N w c r a cap):
  Calls Tryz.prog 69 #[.pointer (some ⟨c,0,none⟩)] w λe w'=>NumZ N w w' c 2 .u16 r e:=by
 have HT:=eE N w c r a cap 2 h (by decide);have HN:Hid (N<=c):=hid h.new;cases ht:fi 2 r with
 | none=>
  have HB:Hid (fi 2 r=none):=ht;clear h ht;go_enter Tryz.func69,Tryz.ntmps69;go_wp2_with fail;refine HT.mono ?_;intro e w1 h1;obtain⟨rfl,hk⟩:=h1.2 HB.out;have HK:Hid (Same w w1):=hk;clear h1 hk HT;unfold aG;go_wp2_with fail;exact⟨rfl,NumZ.bad (Hw HB.out) rfl HK.out⟩
 | some p=>
  obtain⟨x,y⟩:=p;have HB:Hid (fi 2 r=some (x,y)):=ht;clear h ht;go_enter Tryz.func69,Tryz.ntmps69;go_wp2_with fail;refine HT.mono ?_;intro e w1 h1;obtain⟨v,a',cap',rfl,htk,sC,hk⟩:=h1.1 x y HB.out;have HTK:Hid (Tkn N w1 v 2 x):=htk;have HCU:Hid (Cur N w1 c y a' cap'):=sC;have HK:Hid (Kept (·=c) w w1):=hk;have HG:=DQ w1 v _ x htk.src htk.room htk.byte (by rw[htk.len];decide) 0;rw[wV x 2 htk.len]at HG;obtain⟨V,hV⟩:∃V,V=aO x:=⟨_,rfl⟩
  have HV:Hid (V=aO x/\V<256 ^ 2):=hid ⟨hV,by rw[hV,<-htk.len];exact mL x htk.byte⟩;rw[<-hV]at HG;obtain⟨E,hE⟩:∃E,E=tV x.length 0 2:=⟨_,rfl⟩
  rw[<-hE]at HG;obtain⟨va,vc,PX⟩:=htk.shp;subst PX;clear h1 htk sC hk HT hV hE;go_wp2_with fail;refine HG.mono ?_;rintro e w2 ⟨rfl,hb2⟩;have HK2:Hid (Same w1 w2):=hid (qu hb2);clear hb2 HG;go_wp2_with fail;go_ret;exact NumZ.good (Gb HB.out) (by rw[<-HV.out.1];rfl) (by rw[<-HV.out.1];exact HV.out.2) (HCU.out.kept HK2.out (λf=>f) (λ_ _ f=>f)) (Kept.trans HK.out HK2.out (λ_ _ e=>e) (λ_ _ f=>f.elim))
theorem gW(N:Nat)(w:World)(c:Nat)(r:List Nat)(a:Option Addr)(cap:Nat)(h:Cur N w c r a cap):
  Calls Tryz.prog 70 #[.pointer (some ⟨c,0,none⟩)] w λe w'=>NumZ N w w' c 4 .u32 r e:=by
 have HT:=eE N w c r a cap 4 h (by decide);have HN:Hid (N<=c):=hid h.new;cases ht:fi 4 r with
 | none=>
  have HB:Hid (fi 4 r=none):=ht;clear h ht;go_enter Tryz.func70,Tryz.ntmps70;go_wp2_with fail;refine HT.mono ?_;intro e w1 h1;obtain⟨rfl,hk⟩:=h1.2 HB.out;have HK:Hid (Same w w1):=hk;clear h1 hk HT;unfold aG;go_wp2_with fail;exact⟨rfl,NumZ.bad (Hw HB.out) rfl HK.out⟩
 | some p=>
  obtain⟨x,y⟩:=p;have HB:Hid (fi 4 r=some (x,y)):=ht;clear h ht;go_enter Tryz.func70,Tryz.ntmps70;go_wp2_with fail;refine HT.mono ?_;intro e w1 h1;obtain⟨v,a',cap',rfl,htk,sC,hk⟩:=h1.1 x y HB.out;have HTK:Hid (Tkn N w1 v 4 x):=htk;have HCU:Hid (Cur N w1 c y a' cap'):=sC;have HK:Hid (Kept (·=c) w w1):=hk;have HG:=Es w1 v _ x htk.src htk.room htk.byte (by rw[htk.len];decide) 0;rw[wV x 4 htk.len]at HG;obtain⟨V,hV⟩:∃V,V=aO x:=⟨_,rfl⟩
  have HV:Hid (V=aO x/\V<256 ^ 4):=hid ⟨hV,by rw[hV,<-htk.len];exact mL x htk.byte⟩;rw[<-hV]at HG;obtain⟨E,hE⟩:∃E,E=tV x.length 0 4:=⟨_,rfl⟩
  rw[<-hE]at HG;obtain⟨va,vc,PX⟩:=htk.shp;subst PX;clear h1 htk sC hk HT hV hE;go_wp2_with fail;refine HG.mono ?_;rintro e w2 ⟨rfl,hb2⟩;have HK2:Hid (Same w1 w2):=hid (qu hb2);clear hb2 HG;go_wp2_with fail;go_ret;exact NumZ.good (Gb HB.out) (by rw[<-HV.out.1];rfl) (by rw[<-HV.out.1];exact HV.out.2) (HCU.out.kept HK2.out (λf=>f) (λ_ _ f=>f)) (Kept.trans HK.out HK2.out (λ_ _ e=>e) (λ_ _ f=>f.elim))
def ExpZ(N:Nat)(w w':World)(c:Nat)(o:Option (List Nat))(e:Ending):Prop:=
 (∀y,o=some y->∃a' cap',e=.returned (.tuple #[])/\Cur N w' c y a' cap'/\Kept (·=c) w w')/\(o=none->e=aG 81/\Kept (·=c) w w')
theorem ExpZ.good{N:Nat}{w w':World}{c:Nat}{o:Option (List Nat)}{y:List Nat}{e:Ending}(ht:o=some y){a':Option Addr}{cap':Nat}(he:e=.returned (.tuple #[]))(h2:Cur N w' c y a' cap')(h3:Kept (·=c) w w'):ExpZ N w w' c o e:=
 ⟨λy' h=>by rw[ht]at h;simp only[Option.some.injEq]at h;subst h;exact⟨a',cap',he,h2,h3⟩,λh=>by rw[ht]at h;cases h⟩
theorem ExpZ.bad{N:Nat}{w w':World}{c:Nat}{o:Option (List Nat)}{e:Ending}(ht:o=none)(he:e=aG 81)(h3:Kept (·=c) w w'):ExpZ N w w' c o e:=
 ⟨λy' h=>(by rw[ht]at h;cases h),λ_=>⟨he,h3⟩⟩
theorem j0{n v x:Nat}{r y:List Nat}(h:dY n r=some (x,y)):eX n v r=if x=v then some y else none:=by unfold eX;rw[h]
theorem ua{n v:Nat}{r:List Nat}(h:dY n r=none):eX n v r=none:=by unfold eX;rw[h]
theorem Same.k8{c:Nat}{w w':World}(h:Same w w'):Kept (·=c) w w':=h.mono (λ_ _ f=>f.elim)
theorem Kept.k8{c:Nat}{a b d:World}(h:Kept (·=c) a b)(k:Kept (·=c) b d):Kept (·=c) a d:=Kept.trans h k (λ_ _ e=>e) (λ_ _ e=>e)
theorem nY(N:Nat)(w:World)(c:Nat)(r:List Nat)(a:Option Addr)(cap v:Nat)(h:Cur N w c r a cap)(hv:v<4294967296):
  Calls Tryz.prog 67 #[.pointer (some ⟨c,0,none⟩),.int .u32 (v:Nat)] w λe w'=>ExpZ N w w' c (eX 4 v r) e:=by
 have HF:=gW N w c r a cap h;cases ht:dY 4 r with
 | none=>
  have HB:Hid (dY 4 r=none):=ht;clear h ht;go_enter Tryz.func67,Tryz.ntmps67;go_wp2_with fail;refine HF.mono ?_;intro e w1 h1;obtain⟨rfl,hk⟩:=h1.2 HB.out;have HK:Hid (Same w w1):=hk;clear h1 hk HF;unfold aG;go_wp2_with fail;exact⟨rfl,ExpZ.bad (ua HB.out) rfl HK.out.k8⟩
 | some p=>
  obtain⟨x,y⟩:=p;have HB:Hid (dY 4 r=some (x,y)):=ht;clear h ht;by_cases hx:x=v
  ·subst hx;go_enter Tryz.func67,Tryz.ntmps67;go_wp2_with fail;refine HF.mono ?_;intro e w1 h1;obtain⟨a',cap',rfl,EI,sC,hk⟩:=h1.1 x y HB.out;have HCU:Hid (Cur N w1 c y a' cap'):=sC;have HK:Hid (Kept (·=c) w w1):=hk;have HO:=bh w1 (.int .i64 81);clear h1 sC hk HF EI;go_wp2_with fail;refine HO.mono ?_;rintro e w2 ⟨rfl,hw2⟩;subst hw2;clear HO;go_wp2_with fail;go_end0;exact ExpZ.good (by rw[j0 HB.out,if_pos rfl]) rfl HCU.out HK.out
  ·have bx:((x:Int)==(v:Int))=false:=(by simp;omega);have HX:Hid (¬x=v):=hx;clear hx;go_enter Tryz.func67,Tryz.ntmps67;go_wp2_with fail;refine HF.mono ?_;intro e w1 h1;obtain⟨a',cap',rfl,EI,sC,hk⟩:=h1.1 x y HB.out;have HK:Hid (Kept (·=c) w w1):=hk;have HO:=aL w1 81;clear h1 sC hk HF EI;go_wp2_with fail;refine HO.mono ?_;rintro e w2 ⟨rfl,hw2⟩;subst hw2;clear HO;unfold aG;go_wp2_with fail;exact⟨rfl,ExpZ.bad (by rw[j0 HB.out,if_neg HX.out]) rfl HK.out⟩
theorem kO(N:Nat)(w:World)(c:Nat)(r:List Nat)(a:Option Addr)(cap v g:Nat)(h:Cur N w c r a cap)(hv:v<65536)(hg:w.cell? ⟨g,0,none⟩=some (.int .u16 (v:Nat))):
  Calls Tryz.prog 68 #[.pointer (some ⟨c,0,none⟩),.slice (some ⟨g,0,none⟩) 1 1] w λe w'=>ExpZ N w w' c (eX 2 v r) e:=by
 have HF:=kG N w c r a cap h;cases ht:dY 2 r with
 | none=>
  have HB:Hid (dY 2 r=none):=ht;clear h ht;go_enter Tryz.func68,Tryz.ntmps68;go_wp2_with fail;refine wp_loop_rounds 2 ?_;rw[rounds_succ];go_wp2_with fail;refine HF.mono ?_;intro e w1 h1;obtain⟨rfl,hk⟩:=h1.2 HB.out;have HK:Hid (Same w w1):=hk;clear h1 hk HF hg;unfold aG;go_wp2_with fail;exact⟨rfl,ExpZ.bad (ua HB.out) rfl HK.out.k8⟩
 | some p=>
  obtain⟨x,y⟩:=p;have HB:Hid (dY 2 r=some (x,y)):=ht;clear h ht;by_cases hx:x=v
  ·subst hx;go_enter Tryz.func68,Tryz.ntmps68;go_wp2_with fail;refine wp_loop_rounds 2 ?_;rw[rounds_succ];go_wp2_with fail;refine HF.mono ?_;intro e w1 h1;obtain⟨a',cap',rfl,EI,sC,hk⟩:=h1.1 x y HB.out;have HCU:Hid (Cur N w1 c y a' cap'):=sC;have HK:Hid (Kept (·=c) w w1):=hk;have HO:=bh w1 (.int .i64 81);clear h1 sC hk HF EI hg;go_wp2_with fail;refine HO.mono ?_;rintro e w2 ⟨rfl,hw2⟩;subst hw2;clear HO;go_wp2_with fail;rw[rounds_succ];go_wp2_with fail;go_end0;exact ExpZ.good (by rw[j0 HB.out,if_pos rfl]) rfl HCU.out HK.out
  ·have bx:((x:Int)==(v:Int))=false:=(by simp;omega);have HX:Hid (¬x=v):=hx;clear hx;go_enter Tryz.func68,Tryz.ntmps68;go_wp2_with fail;refine wp_loop_rounds 2 ?_;rw[rounds_succ];go_wp2_with fail;refine HF.mono ?_;intro e w1 h1;obtain⟨a',cap',rfl,EI,sC,hk⟩:=h1.1 x y HB.out;have HK:Hid (Kept (·=c) w w1):=hk;have HO:=aL w1 81;clear h1 sC hk HF EI hg;go_wp2_with fail;refine HO.mono ?_;rintro e w2 ⟨rfl,hw2⟩;subst hw2;clear HO;unfold aG;go_wp2_with fail;exact⟨rfl,ExpZ.bad (by rw[j0 HB.out,if_neg HX.out]) rfl HK.out⟩
def oD(v u:Nat)(r:List Nat):Option (List Nat):=dh (eX 2 v r) λr=>eX 2 u r
theorem sO(N:Nat)(w:World)(c:Nat)(r:List Nat)(a:Option Addr)(cap v u g:Nat)(h:Cur N w c r a cap)(hv:v<65536)(hu:u<65536)(Xn:g≠c)(hg:w.cell? ⟨g,0,none⟩=some (.int .u16 (v:Nat)))(pL:w.cell? ⟨g,1,none⟩=some (.int .u16 (u:Nat))):
  Calls Tryz.prog 68 #[.pointer (some ⟨c,0,none⟩),.slice (some ⟨g,0,none⟩) 2 2] w λe w'=>ExpZ N w w' c (oD v u r) e:=by
 have HF:=kG N w c r a cap h;have HG1:Hid (∀w1,Kept (·=c) w w1->w1.cell? ⟨g,1,none⟩=some (.int .u16 (u:Nat))):=hid (λw1 hk=>hk.cell pL (λe=>Xn e));clear pL;cases ht:dY 2 r with
 | none=>
  have HB:Hid (dY 2 r=none):=ht;clear h ht;go_enter Tryz.func68,Tryz.ntmps68;go_wp2_with fail;refine wp_loop_rounds 3 ?_;rw[rounds_succ];go_wp2_with fail;refine HF.mono ?_;intro e w1 h1;obtain⟨rfl,hk⟩:=h1.2 HB.out;have HK:Hid (Same w w1):=hk;clear h1 hk HF hg;unfold aG;go_wp2_with fail;exact⟨rfl,ExpZ.bad (td (ua HB.out)) rfl HK.out.k8⟩
 | some p=>
  obtain⟨x,y⟩:=p;have HB:Hid (dY 2 r=some (x,y)):=ht;clear h ht;by_cases hx:x=v
  ·subst hx;go_enter Tryz.func68,Tryz.ntmps68;go_wp2_with fail;refine wp_loop_rounds 3 ?_;rw[rounds_succ];go_wp2_with fail;refine HF.mono ?_;intro e w1 h1;obtain⟨a',cap',rfl,EI,sC,hk⟩:=h1.1 x y HB.out;have HK:Hid (Kept (·=c) w w1):=hk;have HO:=bh w1 (.int .i64 81);have HF2:=kG N w1 c y a' cap' sC;have HE1:Hid (eX 2 x r=some y):=hid (by rw[j0 HB.out,if_pos rfl]);clear h1 sC hk HF EI hg;go_wp2_with fail;refine HO.mono ?_;rintro e w2 ⟨rfl,hw2⟩;subst hw2;have pL:=HG1.out w2 HK.out;clear HO;go_wp2_with fail;rw[rounds_succ];go_wp2_with fail;refine HF2.mono ?_;intro e w3 h3;cases iP:dY 2 y with
   | none=>
    obtain⟨rfl,hk3⟩:=h3.2 iP;have HK3:Hid (Kept (·=c) w w3):=hid (HK.out.k8 hk3.k8);have HB2:Hid (dY 2 y=none):=iP;clear h3 hk3 HF2 pL iP;unfold aG;go_wp2_with fail;exact⟨rfl,ExpZ.bad (by unfold oD;rw[aA HE1.out];exact ua HB2.out) rfl HK3.out⟩
   | some p2=>
    obtain⟨x2,y2⟩:=p2;obtain⟨a2,eS,rfl,_,hcu2,hk3⟩:=h3.1 x2 y2 iP;have HK3:Hid (Kept (·=c) w w3):=hid (HK.out.k8 hk3);have HB2:Hid (dY 2 y=some (x2,y2)):=iP;have HCU:Hid (Cur N w3 c y2 a2 eS):=hcu2;clear h3 hk3 HF2 pL iP hcu2;by_cases gh:x2=u
    ·subst gh;have HO:=bh w3 (.int .i64 81);go_wp2_with fail;refine HO.mono ?_;rintro e w4 ⟨rfl,hw4⟩;subst hw4;clear HO;go_wp2_with fail;rw[rounds_succ];go_wp2_with fail;go_end0;exact ExpZ.good (by unfold oD;rw[aA HE1.out,j0 HB2.out,if_pos rfl]) rfl HCU.out HK3.out
    ·have bx:((x2:Int)==(u:Int))=false:=(by simp;omega);have HX:Hid (¬x2=u):=gh;have HO:=aL w3 81;clear gh;go_wp2_with fail;refine HO.mono ?_;rintro e w4 ⟨rfl,hw4⟩;subst hw4;clear HO;unfold aG;go_wp2_with fail;exact⟨rfl,ExpZ.bad (by unfold oD;rw[aA HE1.out,j0 HB2.out,if_neg HX.out]) rfl HK3.out⟩
  ·have bx:((x:Int)==(v:Int))=false:=(by simp;omega);have HX:Hid (¬x=v):=hx;clear hx;go_enter Tryz.func68,Tryz.ntmps68;go_wp2_with fail;refine wp_loop_rounds 3 ?_;rw[rounds_succ];go_wp2_with fail;refine HF.mono ?_;intro e w1 h1;obtain⟨a',cap',rfl,EI,sC,hk⟩:=h1.1 x y HB.out;have HK:Hid (Kept (·=c) w w1):=hk;have HO:=aL w1 81;clear h1 sC hk HF EI hg;go_wp2_with fail;refine HO.mono ?_;rintro e w2 ⟨rfl,hw2⟩;subst hw2;clear HO;unfold aG;go_wp2_with fail;exact⟨rfl,ExpZ.bad (by unfold oD;rw[td (by rw[j0 HB.out,if_neg HX.out])]) rfl HK.out⟩
end Go.Proofs.YtkhagfgineifhaaGreatDoor
