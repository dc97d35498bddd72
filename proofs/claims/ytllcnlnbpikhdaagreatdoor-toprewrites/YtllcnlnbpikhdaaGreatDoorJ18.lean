import Derived.RangeFuncBox
import Derived.RangeFuncLeaves
import Derived.Shelf.Abstract
import Derived.WalkKit
import Derived.OwnWalkIn
import Derived.TacticsInMore
import Derived.LoopNIn
import Derived.LoopIn
import Derived.Test.YtllcnlnbpikhdaaGreatDoorJ3
namespace Go.Proofs.YtllcnlnbpikhdaaGreatDoor
open Go.RowKit Go.Shelf
attribute [local go_sem] Oper.semAt_some
def DR(B:Nat)(Kp:World->World->Prop)(I:Nat->World->Prop)(k:Nat)(W:World)(e:Exit)(_:Act)(W':World):Prop:=
 e=.normal/\KeepsFrom B W W'/\Kp W W'/\I (k+1) W'
theorem yI{F:Fence}{n:Nat}{P:Program}{g:Operand}{ps:Array Tmp}{assign body:Code}{Q:Exit→Act→World→Prop}{a:Act}{w:World}(kS:F.round=none)(h1:1≤n){gf:Nat}{lb:Array Value}
  (hg:a.eval g=.func (.func gf) #[] lb) (Rb:F.fn gf) (eg:∀args w,(callFunc gf args).run P w=.ok (.enter gf args) w) (N:Nat) (vals:Nat->Array Value) (IE:∀k,(vals k).size=ps.size) (Kp:World->World->Prop)
  (SB:∀{A B C:World},Kp A B->Kp B C->Kp A C) (SR:∀(W:World) (l:Nat) (o:Obj),w.heap.size<=l->Kp W (W.putObj l o)) (I:Nat->World->Prop) (hI:OwnFrom w.heap.size I) (h0:I 0 w) (a₁:Nat->Act)
  (LZ:∀(l:Nat) (J:Nat->World->Prop) (W:World),Below w.heap.size w W->(∀k W1,k<N->J k W1->YieldAt F (n-1-1) P l (vals k) W1 λe W'=>e=.returned (.bool true)/\J (k+1) W'/\Kp W1 W')->J 0 W ->
   CallsIn F (n-1) P gf (#[.func (.yield l) #[] #[]]++lb) W λe W'=>(∃v,e=.returned v)/\J N W')
  (uo:∀(l k:Nat) (W:World) (K:Act->World->Prop),k<N->K (a₁ k) W->assign.wpIn (F.inRound l) (n-1-1) P (Exit.then K (λ_ _ _=>False)) {tmps:=(ps.zip (vals k)).foldl (λt (p,v)=>t.setIfInBounds p v) a.tmps,defers:=[]} W)
  (xX:∀(l k:Nat) (W:World),k<N->I k W->body.wpIn (F.inRound l) (n-1-1) P (DR w.heap.size Kp I k W) (a₁ k) W)
  (ya:∀(D:Nat) (W:World),w.heap.size<=D->I N W->W.heap[D]? = some (.deferred (some []))->Q .normal {a with defers:={target:=.collected D,args:=#[]}::a.defers} W):
  (Code.rangeFunc g ps assign body).wpIn F n P Q a w:=by
 refine wpIn_rangeFunc (λfn KX=>?_);rw[kS];let R:LoopState->Loop:=λst=>{state:=st,pending:=none,fn:=fn,tmps:=a.tmps,params:=ps,assign:=assign,body:=body,defers:=w.heap.size}
 let w1:World:=(w.alloc (.deferred (some []))).alloc (.loop (R .ready))
 let Book:World->Prop:=λW=>W.heap[w.heap.size+1]? = some (.loop (R .ready))/\W.heap[w.heap.size]? = some (.deferred (some []))
 have O0:Book w1:=by
  constructor
  ·have:=World.alloc_heap_new (w.alloc (.deferred (some []))) (.loop (R .ready));rw[World.size_alloc]at this;exact this
  ·exact(Below.heap_alloc (w.alloc (.deferred (some []))) _ _ (by simp)).trans (World.alloc_heap_new w _)
 have uq:Below w.heap.size w w1:=((Below.refl _ w).alloc (Nat.le_refl _) _).alloc (by simp) _;refine⟨w.heap.size+1,[{target:=.collected w.heap.size,args:=#[]}],w1,{target:=.fn (.func gf) lb,args:=#[.func (.yield (w.heap.size+1)) #[] #[]]},w1,gf,#[.func (.yield (w.heap.size+1)) #[] #[]]++lb,w1,
  run_enterLoop_outer fn a.tmps ps assign body,?_,?_,?_,λ_=>h1,?_⟩
 ·simp only[resolve,hg];simp[go_sem]
 ·intro f' Iy;simp[Target.leads]at Iy;subst Iy;exact Rb
 ·simp[invoke,go_sem,eg]
 refine(LZ (w.heap.size+1) (λk W=>I k W/\Book W) w1 uq ?_ ⟨hI.alloc _ (hI.alloc _ h0),O0⟩).mono ?_
 ·rintro k W hk ⟨hi,hl,hd⟩;have hlt:w.heap.size+1<W.heap.size:=(Array.getElem?_eq_some_iff.1 hl).1;refine⟨fn,_,assign,body,run_yield (P:=P) (args:=vals k) hl (IE k),roundIn_of_wpIn KX (uo _ k W _ hk ⟨_,run_beginRound hl rfl,?_⟩)⟩;have ur:(W.putObj (w.heap.size+1) (.loop (R .busy))).heap[w.heap.size+1]? = some (.loop (R .busy)):=World.putObj_heap_same hlt;have pa:(W.putObj (w.heap.size+1) (.loop (R .busy))).heap[w.heap.size]? = some (.deferred (some [])):=(World.putObj_heap_other (by omega)).trans hd;refine wpIn_mono (xX _ k _ hk (hI.putObj (.loop (R .busy)) hi (by omega) hl rfl)) ?_;rintro e a3 w3 ⟨rfl,hkf,hkp,AB⟩;have Ix:=hkf.same _ _ (by omega) ur rfl;have RP:=hkf.same _ _ (Nat.le_refl _) pa rfl;have Me:w.heap.size+1<w3.heap.size:=(Array.getElem?_eq_some_iff.1 Ix).1;refine⟨_,_,run_endRound (P:=P) none Ix,rfl,⟨hI.putObj _ AB (by omega) Ix rfl,World.putObj_heap_same Me,(World.putObj_heap_other (by omega)).trans RP⟩,?_⟩;exact SB (SB (SR W _ _ (by omega)) hkp) (SR w3 _ _ (by omega))
 ·rintro e w2 ⟨⟨v,rfl⟩,hi,hl,hd⟩;refine⟨none,_,run_endLoop (P:=P) hl (by simp[R]),?_⟩;exact ya _ _ (Nat.le_refl _) (hI.putObj _ hi (by omega) hl rfl) ((World.putObj_heap_other (by omega)).trans hd)
def Kf(fp:World->Nat->Prop)(A B:World):Prop:=Kept (fp A) A B/\∀j,fp B j->fp A j\/A.heap.size<=j
theorem fF(w:World)(l:Nat)(o:Obj):Kept (·=l) w (w.putObj l o):=
 ⟨rfl,rfl,rfl,by simp[World.putObj],λk _ hn=>World.putObj_heap_other hn⟩
def Im(D:Nat)(fp:World->Nat->Prop)(W:World)(j:Nat):Prop:=j=D\/j=D+1\/fp W j
def GR(go:Bool)(bid:Nat):Exit:=if go=true then .normal else .exit bid
theorem Gg{F:Fence}{n:Nat}(m:Nat){P:Program}{g:Operand}{ps:Array Tmp}{assign body:Code}{Q:Exit→Act→World→Prop}{a:Act}{w:World}(kS:F.round=none)(h1:1≤n){gf:Nat}{lb:Array Value}
  (hg:a.eval g=.func (.func gf) #[] lb) (Rb:F.fn gf) (eg:∀args w,(callFunc gf args).run P w=.ok (.enter gf args) w) (N:Nat) (vals:Nat->Array Value) (IE:∀k,(vals k).size=ps.size) (go:Nat->Bool) (bid:Nat)
  (fp:World->Nat->Prop) (I:Nat->World->Prop) (O3:∀k W W' G,I k W->Kept G W W'->(∀j,fp W j->¬G j)->(∀j,G j->w.heap.size<=j)->I k W') (Il:∀k W W' G,I k W->Kept G W W'->(∀j,fp W j->¬G j)->∀j,fp W' j↔fp W j)
  (hlt:∀k W j,I k W->fp W j->j<W.heap.size) (bh:∀k W j,I k W->fp W j->j≠w.heap.size/\j≠w.heap.size+1) (h0:I 0 w) (a₁:Nat->World->Act) (wA:Nat->World->World) (py:∀k W,Same W (wA k W))
  (LZ:∀(J:Nat->World->Prop) (W:World),Same w W->w.heap.size+2<=W.heap.size->(∀k W W' G,J k W->Kept G W W'->(∀j,Im w.heap.size fp W j->¬G j)->(∀j,G j->w.heap.size<=j)->J k W')->(∀k W W' G,J k W->Kept G W W'->(∀j,Im w.heap.size fp W j->¬G j)->∀j,Im w.heap.size fp W' j↔Im w.heap.size fp W j) ->
   (∀k W j,J k W->Im w.heap.size fp W j->j<W.heap.size) ->
   (∀k W1,k<N->(k=0\/go (k-1)=true)->J k W1->YieldAt F m P (w.heap.size+1) (vals k) W1 λe W'=>e=.returned (.bool (go k))/\J (k+1) W'/\Kf (Im w.heap.size fp) W1 W')->J 0 W ->
   CallsIn F (n-1) P gf (#[.func (.yield (w.heap.size+1)) #[] #[]]++lb) W λe W'=>(∃v,e=.returned v)/\∃M,M<=N/\(M=N\/(0<M/\go (M-1)=false))/\J M W')
  (uo:∀(k:Nat) (W:World) (K:Act->World->Prop),k<N->K (a₁ k W) (wA k W)->assign.wpIn (F.inRound (w.heap.size+1)) m P (Exit.then K (λ_ _ _=>False)) {tmps:=(ps.zip (vals k)).foldl (λt (p,v)=>t.setIfInBounds p v) a.tmps,defers:=[]} W)
  (xX:∀(k:Nat) (W W1:World),k<N->I k W->I k W1->w.heap.size+2<=W.heap.size->Kept (·=w.heap.size+1) (wA k W) W1->body.wpIn (F.inRound (w.heap.size+1)) m P (λe _ W'=>e=GR (go k) bid/\Kf fp W1 W'/\I (k+1) W') (a₁ k W) W1)
  (ya:∀(M:Nat) (W:World),M<=N->(M=N\/(0<M/\go (M-1)=false))->I M W->W.heap[w.heap.size]? = some (.deferred (some []))->w.heap.size+2<=W.heap.size->Q (if M=0 then .normal else GR (go (M-1)) bid) {a with defers:={target:=.collected w.heap.size,args:=#[]}::a.defers} W):
  (Code.rangeFunc g ps assign body).wpIn F n P Q a w:=by
 refine wpIn_rangeFunc (λfn KX=>?_);rw[kS];let R:LoopState->Option Code->Loop:=λst pd=>{state:=st,pending:=pd,fn:=fn,tmps:=a.tmps,params:=ps,assign:=assign,body:=body,defers:=w.heap.size}
 let S:Nat->Loop:=λk=>if k=0\/go (k-1)=true then R .ready none else R .done (some (.exit bid))
 let w1:World:=(w.alloc (.deferred (some []))).alloc (.loop (R .ready none))
 let J:Nat->World->Prop:=λk W=>I k W/\W.heap[w.heap.size+1]? = some (.loop (S k))/\W.heap[w.heap.size]? = some (.deferred (some []))
 have Vd:S 0=R .ready none:=if_pos (.inl rfl);have jc:Same w w1:=((Kept.refl _ w).alloc _).alloc _;have PM:J 0 w1:=by
  refine⟨O3 0 w w1 _ h0 jc (λ_ _ f=>f) (λ_ f=>f.elim),?_,?_⟩
  ·rw[Vd];have:=World.alloc_heap_new (w.alloc (.deferred (some []))) (.loop (R .ready none));rw[World.size_alloc]at this;exact this
  ·exact(Below.heap_alloc (w.alloc (.deferred (some []))) _ _ (by simp)).trans (World.alloc_heap_new w _)
 have cX:∀k W,J k W->w.heap.size+2<=W.heap.size:=λk W h=>by have:=(Array.getElem?_eq_some_iff.1 h.2.1).1;omega
 refine⟨w.heap.size+1,[{target:=.collected w.heap.size,args:=#[]}],w1,{target:=.fn (.func gf) lb,args:=#[.func (.yield (w.heap.size+1)) #[] #[]]},w1,gf,#[.func (.yield (w.heap.size+1)) #[] #[]]++lb,w1,
  run_enterLoop_outer fn a.tmps ps assign body,?_,?_,?_,λ_=>h1,?_⟩
 ·simp only[resolve,hg];simp[go_sem]
 ·intro f' Iy;simp[Target.leads]at Iy;subst Iy;exact Rb
 ·simp[invoke,go_sem,eg]
 refine(LZ J w1 jc (cX 0 w1 PM) ?_ ?_ ?_ ?_ PM).mono ?_
 ·rintro k W W' G ⟨hi,hl,hd⟩ hk hG hB;refine⟨O3 k W W' G hi hk (λj f=>hG j (.inr (.inr f))) hB,?_,?_⟩
  ·rw[hk.block _ (Array.getElem?_eq_some_iff.1 hl).1 (hG _ (.inr (.inl rfl)))];exact hl
  ·rw[hk.block _ (Array.getElem?_eq_some_iff.1 hd).1 (hG _ (.inl rfl))];exact hd
 ·rintro k W W' G ⟨hi,hl,hd⟩ hk hG j;unfold Im;rw[Il k W W' G hi hk (λj f=>hG j (.inr (.inr f))) j]
 ·rintro k W j ⟨hi,hl,hd⟩ hj;rcases hj with rfl | rfl | hj
  ·exact(Array.getElem?_eq_some_iff.1 hd).1
  ·exact(Array.getElem?_eq_some_iff.1 hl).1
  ·exact hlt k W j hi hj
 ·rintro k W hk Md ⟨hi,hl,hd⟩;have WT:S k=R .ready none:=if_pos Md;rw[WT]at hl;have JW:w.heap.size+1<W.heap.size:=(Array.getElem?_eq_some_iff.1 hl).1;have hkA:Same W (wA k W):=py k W;have N5:(wA k W).heap[w.heap.size+1]? = some (.loop (R .ready none)):=(by rw[hkA.block _ JW (λf=>f)];exact hl);have RE:w.heap.size+1<(wA k W).heap.size:=Nat.lt_of_lt_of_le JW hkA.size;refine⟨fn,_,assign,body,run_yield (P:=P) (args:=vals k) hl (IE k),roundIn_of_wpIn KX (uo k W _ hk ⟨_,run_beginRound N5 rfl,?_⟩)⟩;have hkP:Kept (·=w.heap.size+1) (wA k W) ((wA k W).putObj (w.heap.size+1) (.loop (R .busy none))):=fF _ _ _;have hk2:Kept (·=w.heap.size+1) W ((wA k W).putObj (w.heap.size+1) (.loop (R .busy none))):=Kept.trans hkA hkP (λ_ _ f=>f.elim) (λ_ _ f=>f);have uD:I k ((wA k W).putObj (w.heap.size+1) (.loop (R .busy none))):=O3 k W _ _ hi hk2 (λj f e=>(bh k W j hi f).2 e) (λj e=>by omega);have ur:((wA k W).putObj (w.heap.size+1) (.loop (R .busy none))).heap[w.heap.size+1]? = some (.loop (R .busy none)):=World.putObj_heap_same RE;have pa:((wA k W).putObj (w.heap.size+1) (.loop (R .busy none))).heap[w.heap.size]? = some (.deferred (some [])):=by
   rw[World.putObj_heap_other (by omega),hkA.block _ (Array.getElem?_eq_some_iff.1 hd).1 (λf=>f)];exact hd
  have hf2:=Il k W _ _ hi hk2 (λj f e=>(bh k W j hi f).2 e);refine wpIn_mono (xX k W _ hk hi uD (by omega) hkP) ?_;rintro e a3 w3 ⟨rfl,hkf,AB⟩;have Ix:w3.heap[w.heap.size+1]? = some (.loop (R .busy none)):=(by rw[hkf.1.block _ (Array.getElem?_eq_some_iff.1 ur).1 (λf=>(bh k _ _ uD f).2 rfl)];exact ur);have RP:w3.heap[w.heap.size]? = some (.deferred (some [])):=(by rw[hkf.1.block _ (Array.getElem?_eq_some_iff.1 pa).1 (λf=>(bh k _ _ uD f).1 rfl)];exact pa);have Me:w.heap.size+1<w3.heap.size:=(Array.getElem?_eq_some_iff.1 Ix).1;have gU:∀o:Obj,o=.loop (S (k+1))->J (k+1) (w3.putObj (w.heap.size+1) o)/\Kf (Im w.heap.size fp) W (w3.putObj (w.heap.size+1) o):=by
   rintro o rfl;have hk4:Kept (·=w.heap.size+1) w3 (w3.putObj (w.heap.size+1) (.loop (S (k+1)))):=fF w3 _ _;have hf4:=Il (k+1) w3 _ _ AB hk4 (λj f e=>(bh (k+1) w3 j AB f).2 e);refine⟨⟨O3 (k+1) w3 _ _ AB hk4 (λj f e=>(bh (k+1) w3 j AB f).2 e) (λj e=>by omega),World.putObj_heap_same Me,(World.putObj_heap_other (by omega)).trans RP⟩,?_⟩;refine⟨Kept.trans (Kept.trans (H:=Im w.heap.size fp W) hk2 hkf.1 (λ_ _ e=>.inr (.inl e)) (λx hx f=>.inr (.inr ((hf2 x).1 f)))) hk4 (λ_ _ f=>f) (λ_ _ e=>.inr (.inl e)),λj hj=>?_⟩;rcases hj with rfl | rfl | hj
   ·exact .inl (.inl rfl)
   ·exact .inl (.inr (.inl rfl))
   ·rcases hkf.2 j ((hf4 j).1 hj)with h9 | h9
    ·exact .inl (.inr (.inr ((hf2 j).1 h9)))
    ·exact .inr (Nat.le_trans hk2.size h9)
  cases oI:go k with
  | true=>
   have hS:S (k+1)=R .ready none:=if_pos (.inr (by simpa using oI));have:=gU (.loop (R .ready none)) (by rw[hS]);show roundPost P _ _ (GR true bid) a3 w3;exact⟨_,_,run_endRound (P:=P) none Ix,rfl,this⟩
  | false=>
   have hS:S (k+1)=R .done (some (.exit bid)):=if_neg (by simp[oI]);have:=gU (.loop (R .done (some (.exit bid)))) (by rw[hS]);show roundPost P _ _ (GR false bid) a3 w3;exact⟨_,_,run_endRound (P:=P) (some (.exit bid)) Ix,rfl,this⟩
 ·rintro e w2 ⟨⟨v,rfl⟩,M,SU,hM,hi,hl,hd⟩;have qY:w.heap.size+1<w2.heap.size:=(Array.getElem?_eq_some_iff.1 hl).1;have hk4:∀o,Kept (·=w.heap.size+1) w2 (w2.putObj (w.heap.size+1) o):=λo=>fF w2 _ o
  have J9:=λo=>ya M (w2.putObj (w.heap.size+1) o) SU hM (O3 M w2 _ _ hi (hk4 o) (λj f e=>(bh M w2 j hi f).2 e) (λj e=>by omega)) ((World.putObj_heap_other (by omega)).trans hd) (Nat.le_trans (by omega) (hk4 o).size)
  by_cases hrd:M=0\/go (M-1)=true
  ·have hS:S M=R .ready none:=if_pos hrd;rw[hS]at hl;refine⟨none,_,run_endLoop (P:=P) hl (by simp[R]),?_⟩;have:=J9 (.loop {R .ready none with state:=.exhausted});by_cases h00:M=0
   ·rw[if_pos h00]at this;exact this
   ·rw[if_neg h00]at this;rcases hrd with h9 | h9
    ·exact absurd h9 h00
    ·rw[h9]at this;exact this
  ·have hS:S M=R .done (some (.exit bid)):=if_neg hrd;rw[hS]at hl;refine⟨some (.exit bid),_,run_endLoop (P:=P) hl (by simp[R]),?_⟩;have:=J9 (.loop {R .done (some (.exit bid))with state:=.exhausted});rw[if_neg (λh9=>hrd (.inl h9))]at this;have Xg:go (M-1)=false:=by
    cases h9:go (M-1) with
    | false=>rfl
    | true=>exact absurd (.inr h9) hrd
   rw[Xg]at this;exact wpIn_exit this
end Go.Proofs.YtllcnlnbpikhdaaGreatDoor
