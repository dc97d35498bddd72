import Derived.Test.YtkhagfgineifhaaGreatDoorHLev
import Derived.Test.YtkhagfgineifhaaGreatDoorRng
import Derived.RangeFuncBox
import Derived.RangeFuncLeaves
import Derived.Shelf.Abstract
import Derived.WalkKit
import Derived.OwnWalkIn
import Derived.TacticsInMore
import Derived.LoopNIn
import Derived.LoopIn
set_option maxHeartbeats 2000000
set_option maxRecDepth 100000
namespace Go.Proofs.YtkhagfgineifhaaGreatDoor
open Go.RowKit Go.Shelf
attribute [local go_sem] Oper.semAt_some
def Keep2(b1 b2:Nat)(W W':World):Prop:=W'.heap[b1]? = W.heap[b1]?/\W'.heap[b2]? = W.heap[b2]?
theorem Keep2.trans{b1 b2:Nat}{A B C:World}(h:Keep2 b1 b2 A B)(k:Keep2 b1 b2 B C):Keep2 b1 b2 A C:=⟨k.1.trans h.1,k.2.trans h.2⟩
def mN(vs:List (Option Addr×Nat×Nat))(k:Nat):Array Value:=#[.int .i64 ((vs.length-1-k:Nat):Int),I6 (vs.getD (vs.length-1-k) (none,0,0))]
theorem Eh(F:Fence)(n:Nat)(h7:F.fn 198)(lw:F.round=none)(hn:1≤n)(l Bs g cap:Nat)(vs:List (Option Addr×Nat×Nat))(ag:vs.length≤1000)(J:Nat→World→Prop)
  (hY:∀k W1,k<vs.length->J k W1->YieldAt F (n-1) Tryz.prog l (mN vs k) W1 λe W'=>e=.returned (.bool true)/\J (k+1) W'/\Keep2 Bs g W1 W')
  (W:World) (OV:W.cell? ⟨Bs,0,none⟩=some (.slice (some ⟨g,0,none⟩) vs.length cap)) (hc:∀j (_:j<vs.length),W.cell? ⟨g,j,none⟩=some (I6 vs[j])) (h0:J 0 W):
  CallsIn F n Tryz.prog 198 #[.func (.yield l) #[] #[],.pointer (some ⟨Bs,0,none⟩)] W λe W'=>(∃v,e=.returned v)/\J vs.length W':=by
 refine callsIn_of_wp Tryz.func198 rfl h7 ?_ lw;simp only[Tryz.ntmps198,List.size_toArray,List.length_cons,List.length_nil,Nat.reduceAdd,Nat.reduceSub,Array.replicate_succ,Array.replicate_zero,List.push_toArray,List.append_toArray,List.nil_append,List.cons_append];gi_wp2;gi_loopw [3] (λi wr=>∃k:Nat,k<=vs.length/\i=.int .i64 ((vs.length:Int)-1-k)/\J k wr/\Keep2 Bs g W wr)
  (λi _=>(intOf i+1).toNat)
 case atStart=>exact⟨0,Nat.zero_le _,by simp,h0,rfl,rfl⟩
 case round=>
  obtain⟨k,hk,rfl,EM,hnx⟩:=hrel;have Qr:=(World.cell?_of_block (a:=⟨Bs,0,none⟩) hnx.1).trans OV;by_cases hlt:k<vs.length
  ·obtain⟨m,hm⟩:∃m,m=vs.length-1-k:=⟨_,rfl⟩
   have ip:(vs.length:Int)-1-k=(m:Nat):=(by omega);have I7:m<vs.length:=(by omega);obtain⟨fn,tmps,assign,body,hy,hR⟩:=hY k wr hlt EM;obtain⟨xa,xn,xc,hx⟩:∃xa xn xc,vs[m]=(xa,xn,xc):=⟨_,_,_,rfl⟩
   have rN:wr.cell? ⟨g,m,none⟩=some (.slice xa xn xc):=(by have:=(World.cell?_of_block (a:=⟨g,m,none⟩) hnx.2).trans (hc m I7);rw[hx]at this;exact this);have vg:mN vs k=#[.int .i64 (m:Int),.slice xa xn xc]:=(by unfold mN;rw[<-hm];simp[List.getD,I7,hx,I6]);rw[vg]at hy;rw[ip];have HM:Hid (m=vs.length-1-k):=hm;clear hm ip vg hx;gi_wp2;refine hR.mono ?_;rintro e W3 ⟨rfl,EO,hk3⟩;gi_wp2;go_roundw
   case rel=>exact⟨k+1,by omega,by have:=HM.out;simp;omega,EO,hnx.trans hk3⟩
   case measure=>simp[intOf]
  ·obtain rfl:k=vs.length:=by omega
   gi_wp2
   go_end0;exact⟨⟨_,rfl⟩,EM⟩
theorem uh(F:Fence)(n:Nat)(h5:F.fn 182)(lw:F.round=none)(a:Option Addr)(len cap:Nat)(w:World):
  CallsIn F n Tryz.prog 182 #[.slice a len cap] w λe w'=>e=.returned (.func (.func 198) #[] #[.pointer (some ⟨w.heap.size,0,none⟩)])/\w'=w.alloc (.cells #[.slice a len cap] 221):=by
 refine callsIn_of_wp Tryz.func182 rfl h5 ?_ lw;simp only[Tryz.ntmps182,List.size_toArray,List.length_cons,List.length_nil,Nat.reduceAdd,Nat.reduceSub,Array.replicate_succ,Array.replicate_zero,List.push_toArray,List.append_toArray,List.nil_append,List.cons_append];gi_wp2;go_ret;exact⟨rfl,rfl⟩
end Go.Proofs.YtkhagfgineifhaaGreatDoor
