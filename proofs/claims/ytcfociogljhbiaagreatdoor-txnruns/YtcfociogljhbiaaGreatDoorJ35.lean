/-
  Of the proof: parts Rnq.
-/
import Derived.Sort.QuietTacIn
import Derived.Test.YtcfociogljhbiaaGreatDoorJ29

namespace Go.Proofs.YtcfociogljhbiaaGreatDoor
open Go.RowKit Go.Shelf

attribute [local go_sem] Oper.semAt_some

theorem range_fq{F:Fence}{n:Nat}(m:Nat){P:Program}{g:Operand}{ps:Array Tmp}{assign body:Code}{Q:Exit→Act→World→Prop}{a:Act}{w:World}(hro:F.round=none)(h1:1≤n){gf:Nat}{lb:Array Value}
  (hg:a.eval g=.func (.func gf) #[] lb) (hFg:F.fn gf) (eg:∀args w,(callFunc gf args).run P w=.ok (.enter gf args) w) (N:Nat) (vals:Nat→Array Value) (hps:∀k,(vals k).size=ps.size) (go:Nat→Bool) (bid:Nat)
  (fp:World→Nat→Prop) (I:Nat→World→Prop) (hIs:∀k W W' G,I k W→Kept G W W'→(∀j,fp W j→¬G j)→(∀j,G j→w.heap.size≤j)→I k W') (hfs:∀k W W' G,I k W→Kept G W W'→(∀j,fp W j→¬G j)→∀j,fp W' j↔fp W j)
  (hlt:∀k W j,I k W→fp W j→j<W.heap.size) (hne:∀k W j,I k W→fp W j→j≠w.heap.size∧j≠w.heap.size+1) (h0:I 0 w)
  (hseq:∀(J:Nat→World→Prop) (W:World),Same w W→w.heap.size+2≤W.heap.size→(∀k W W' G,J k W→Kept G W W'→(∀j,fpR w.heap.size fp W j→¬G j)→(∀j,G j→w.heap.size≤j)→J k W')→(∀k W W' G,J k W→Kept G W W'→(∀j,fpR w.heap.size fp W j→¬G j)→∀j,fpR w.heap.size fp W' j↔fpR w.heap.size fp W j) →
   (∀k W j,J k W→fpR w.heap.size fp W j→j<W.heap.size) →
   (∀k W1,k<N→(k=0∨go (k-1)=true)→J k W1→YieldAt F m P (w.heap.size+1) (vals k) W1 fun e W'=>e=.returned (.bool (go k))∧J (k+1) W'∧Kf (fpR w.heap.size fp) W1 W')→J 0 W →
   CallsIn F (n-1) P gf (#[.func (.yield (w.heap.size+1)) #[] #[]]++lb) W fun e W'=>(∃v,e=.returned v)∧∃M,M≤N∧(M=N∨(0<M∧go (M-1)=false))∧J M W')
  (hround:∀(k:Nat) (W:World),k<N→(k=0∨go (k-1)=true)→I k W→w.heap.size+2≤W.heap.size→assign.wpIn (F.inRound (w.heap.size+1)) m P (Exit.then (fun a1 wa=>Same W wa∧∀W1,I k W1→Kept (·=w.heap.size+1) wa W1→body.wpIn (F.inRound (w.heap.size+1)) m P (fun e _ W'=>e=endG (go k) bid∧Kf fp W1 W'∧I (k+1) W') a1 W1) (fun _ _ _=>False)) {tmps:=(ps.zip (vals k)).foldl (fun t (p,v)=>t.setIfInBounds p v) a.tmps,defers:=[]} W)
  (hdone:∀(M:Nat) (W:World),M≤N→(M=N∨(0<M∧go (M-1)=false))→I M W→W.heap[w.heap.size]? = some (.deferred (some []))→w.heap.size+2≤W.heap.size→Q (if M=0 then .normal else endG (go (M-1)) bid) {a with defers:={target:=.collected w.heap.size,args:=#[]}::a.defers} W):
  (Code.rangeFunc g ps assign body).wpIn F n P Q a w:=by
 refine wpIn_rangeFunc (fun fn hfn=>?_)
 rw[hro]
 let R:LoopState→Option Code→Loop:=fun st pd=>{state:=st,pending:=pd,fn:=fn,tmps:=a.tmps,params:=ps,assign:=assign,body:=body,defers:=w.heap.size}
 let S:Nat→Loop:=fun k=>if k=0∨go (k-1)=true then R .ready none else R .done (some (.exit bid))
 let w1:World:=(w.alloc (.deferred (some []))).alloc (.loop (R .ready none))
 let J:Nat→World→Prop:=fun k W=>I k W∧W.heap[w.heap.size+1]? = some (.loop (S k))∧W.heap[w.heap.size]? = some (.deferred (some []))
 have hS0:S 0=R .ready none:=if_pos (.inl rfl)
 have hsame:Same w w1:=((Kept.refl _ w).alloc _).alloc _
 have hJ0:J 0 w1:=by
  refine⟨hIs 0 w w1 _ h0 hsame (fun _ _ f=>f) (fun _ f=>f.elim),?_,?_⟩
  ·rw[hS0]
   have:=World.alloc_heap_new (w.alloc (.deferred (some []))) (.loop (R .ready none))
   rw[World.size_alloc]at this
   exact this
  ·exact(Below.heap_alloc (w.alloc (.deferred (some []))) _ _ (by simp)).trans (World.alloc_heap_new w _)
 have hsz:∀k W,J k W→w.heap.size+2≤W.heap.size:=fun k W h=>by
  have:=(Array.getElem?_eq_some_iff.1 h.2.1).1
  omega
 refine⟨w.heap.size+1,[{target:=.collected w.heap.size,args:=#[]}],w1,{target:=.fn (.func gf) lb,args:=#[.func (.yield (w.heap.size+1)) #[] #[]]},w1,gf,#[.func (.yield (w.heap.size+1)) #[] #[]]++lb,w1,
  run_enterLoop_outer fn a.tmps ps assign body,?_,?_,?_,fun _=>h1,?_⟩
 ·simp only[resolve,hg];simp[go_sem]
 ·intro f' hf'
  simp[Target.leads]at hf'
  subst hf'
  exact hFg
 ·simp[invoke,go_sem,eg]
 refine(hseq J w1 hsame (hsz 0 w1 hJ0) ?_ ?_ ?_ ?_ hJ0).mono ?_
 ·rintro k W W' G ⟨hi,hl,hd⟩ hk hG hB
  refine⟨hIs k W W' G hi hk (fun j f=>hG j (.inr (.inr f))) hB,?_,?_⟩
  ·rw[hk.block _ (Array.getElem?_eq_some_iff.1 hl).1 (hG _ (.inr (.inl rfl)))];exact hl
  ·rw[hk.block _ (Array.getElem?_eq_some_iff.1 hd).1 (hG _ (.inl rfl))];exact hd
 ·rintro k W W' G ⟨hi,hl,hd⟩ hk hG j
  unfold fpR
  rw[hfs k W W' G hi hk (fun j f=>hG j (.inr (.inr f))) j]
 ·rintro k W j ⟨hi,hl,hd⟩ hj
  rcases hj with rfl | rfl | hj
  ·exact(Array.getElem?_eq_some_iff.1 hd).1
  ·exact(Array.getElem?_eq_some_iff.1 hl).1
  ·exact hlt k W j hi hj
 ·rintro k W hk hgo ⟨hi,hl,hd⟩
  have hSk:S k=R .ready none:=if_pos hgo
  rw[hSk]at hl
  have hlt1:w.heap.size+1<W.heap.size:=(Array.getElem?_eq_some_iff.1 hl).1
  refine⟨fn,_,assign,body,run_yield (P:=P) (args:=vals k) hl (hps k),roundIn_of_wpIn hfn (wpIn_mono (hround k W hk hgo hi (by omega)) ?_)⟩
  intro e a1 wA hq
  cases e with
  | normal=>?_
  | _=>exact hq.elim
  obtain⟨hkA,hbody⟩:=hq
  have hlA:wA.heap[w.heap.size+1]? = some (.loop (R .ready none)):=by rw[hkA.block _ hlt1 (fun f=>f)];exact hl
  have hltA:w.heap.size+1<wA.heap.size:=Nat.lt_of_lt_of_le hlt1 hkA.size
  refine⟨_,run_beginRound hlA rfl,?_⟩
  have hkP:Kept (·=w.heap.size+1) wA (wA.putObj (w.heap.size+1) (.loop (R .busy none))):=kept_putObj _ _ _
  have hk2:Kept (·=w.heap.size+1) W (wA.putObj (w.heap.size+1) (.loop (R .busy none))):=Kept.trans hkA hkP (fun _ _ f=>f.elim) (fun _ _ f=>f)
  have hi2:I k (wA.putObj (w.heap.size+1) (.loop (R .busy none))):=hIs k W _ _ hi hk2 (fun j f e=>(hne k W j hi f).2 e) (fun j e=>by omega)
  have hl2:(wA.putObj (w.heap.size+1) (.loop (R .busy none))).heap[w.heap.size+1]? = some (.loop (R .busy none)):=World.putObj_heap_same hltA
  have hd2:(wA.putObj (w.heap.size+1) (.loop (R .busy none))).heap[w.heap.size]? = some (.deferred (some [])):=by
   rw[World.putObj_heap_other (by omega),hkA.block _ (Array.getElem?_eq_some_iff.1 hd).1 (fun f=>f)];exact hd
  have hf2:=hfs k W _ _ hi hk2 (fun j f e=>(hne k W j hi f).2 e)
  refine wpIn_mono (hbody _ hi2 hkP) ?_
  rintro e a3 w3 ⟨rfl,hkf,hi3⟩
  have hl3:w3.heap[w.heap.size+1]? = some (.loop (R .busy none)):=by
   rw[hkf.1.block _ (Array.getElem?_eq_some_iff.1 hl2).1 (fun f=>(hne k _ _ hi2 f).2 rfl)];exact hl2
  have hd3:w3.heap[w.heap.size]? = some (.deferred (some [])):=by
   rw[hkf.1.block _ (Array.getElem?_eq_some_iff.1 hd2).1 (fun f=>(hne k _ _ hi2 f).1 rfl)];exact hd2
  have hlt3:w.heap.size+1<w3.heap.size:=(Array.getElem?_eq_some_iff.1 hl3).1
  have hfin:∀o:Obj,o=.loop (S (k+1))→J (k+1) (w3.putObj (w.heap.size+1) o)∧Kf (fpR w.heap.size fp) W (w3.putObj (w.heap.size+1) o):=by
   rintro o rfl
   have hk4:Kept (·=w.heap.size+1) w3 (w3.putObj (w.heap.size+1) (.loop (S (k+1)))):=kept_putObj w3 _ _
   have hf4:=hfs (k+1) w3 _ _ hi3 hk4 (fun j f e=>(hne (k+1) w3 j hi3 f).2 e)
   refine⟨⟨hIs (k+1) w3 _ _ hi3 hk4 (fun j f e=>(hne (k+1) w3 j hi3 f).2 e) (fun j e=>by omega),World.putObj_heap_same hlt3,(World.putObj_heap_other (by omega)).trans hd3⟩,?_⟩
   refine⟨Kept.trans (Kept.trans (H:=fpR w.heap.size fp W) hk2 hkf.1 (fun _ _ e=>.inr (.inl e)) (fun x hx f=>.inr (.inr ((hf2 x).1 f)))) hk4 (fun _ _ f=>f) (fun _ _ e=>.inr (.inl e)),fun j hj=>?_⟩
   rcases hj with rfl | rfl | hj
   ·exact .inl (.inl rfl)
   ·exact .inl (.inr (.inl rfl))
   ·rcases hkf.2 j ((hf4 j).1 hj)with h9 | h9
    ·exact .inl (.inr (.inr ((hf2 j).1 h9)))
    ·exact .inr (Nat.le_trans hk2.size h9)
  cases hgk:go k with
  | true=>
   have hS:S (k+1)=R .ready none:=if_pos (.inr (by simpa using hgk))
   have:=hfin (.loop (R .ready none)) (by rw[hS])
   show roundPost P _ _ (endG true bid) a3 w3
   exact⟨_,_,run_endRound (P:=P) none hl3,rfl,this⟩
  | false=>
   have hS:S (k+1)=R .done (some (.exit bid)):=if_neg (by simp[hgk])
   have:=hfin (.loop (R .done (some (.exit bid)))) (by rw[hS])
   show roundPost P _ _ (endG false bid) a3 w3
   exact⟨_,_,run_endRound (P:=P) (some (.exit bid)) hl3,rfl,this⟩
 ·rintro e w2 ⟨⟨v,rfl⟩,M,hMN,hM,hi,hl,hd⟩
  have hlt2:w.heap.size+1<w2.heap.size:=(Array.getElem?_eq_some_iff.1 hl).1
  have hk4:∀o,Kept (·=w.heap.size+1) w2 (w2.putObj (w.heap.size+1) o):=fun o=>kept_putObj w2 _ o
  have hdn:=fun o=>hdone M (w2.putObj (w.heap.size+1) o) hMN hM (hIs M w2 _ _ hi (hk4 o) (fun j f e=>(hne M w2 j hi f).2 e) (fun j e=>by omega)) ((World.putObj_heap_other (by omega)).trans hd) (Nat.le_trans (by omega) (hk4 o).size)
  by_cases hrd:M=0∨go (M-1)=true
  ·have hS:S M=R .ready none:=if_pos hrd
   rw[hS]at hl
   refine⟨none,_,run_endLoop (P:=P) hl (by simp[R]),?_⟩
   have:=hdn (.loop {R .ready none with state:=.exhausted})
   by_cases h00:M=0
   ·rw[if_pos h00]at this;exact this
   ·rw[if_neg h00]at this
    rcases hrd with h9 | h9
    ·exact absurd h9 h00
    ·rw[h9]at this;exact this
  ·have hS:S M=R .done (some (.exit bid)):=if_neg hrd
   rw[hS]at hl
   refine⟨some (.exit bid),_,run_endLoop (P:=P) hl (by simp[R]),?_⟩
   have:=hdn (.loop {R .done (some (.exit bid))with state:=.exhausted})
   rw[if_neg (fun h9=>hrd (.inl h9))]at this
   have hgf:go (M-1)=false:=by
    cases h9:go (M-1) with
    | false=>rfl
    | true=>exact absurd (.inr h9) hrd
   rw[hgf]at this
   exact wpIn_exit this

end Go.Proofs.YtcfociogljhbiaaGreatDoor
