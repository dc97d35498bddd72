/-
  Of the proof: parts HeldT.
-/
import Derived.OrdersHeld
import Derived.Test.YtcfociogljhbiaaGreatDoorJ1

namespace Go.Proofs.YtcfociogljhbiaaGreatDoor

section
variable {P:Program} {ops:Array Oper} {Q:Exit→Act→World→Prop} {S:World→Prop} {t:Nat}

def AnyT(P:Program)(ops:Array Oper)(Q:Exit→Act→World→Prop)(S:World→Prop)(t:Nat):Nat→Array Bool→Act→World→Prop
 | 0,listed,a,w=>Region.ready .any ops listed=[]∧Q .normal a w
 | n+1,listed,a,w=>(Region.ready .any ops listed=[]→Q .normal a w) ∧
  ∀i∈Region.ready .any ops listed,wpOp P ops Q i (fun a' w'=>(i≠t→S w')∧AnyT P ops Q S t n (listed.setIfInBounds i true) a' w') a w

theorem AnyT.any:∀(n:Nat) (listed:Array Bool) (a:Act) (w:World),AnyT P ops Q S t n listed a w→wpAny P .any ops Q n listed a w
 | 0,_,_,_,h=>h
 | n+1,_,_,_,h=>⟨h.1,fun i hi=>wpOp_mono (fun a' w' h'=>AnyT.any n _ a' w' h'.2) (h.2 i hi)⟩

def waitsT(ops:Array Oper)(t i:Nat):Bool:=match ops[t]? with | some o=>o.after.any (fun e=>Region.binds .any e && e.on==i) | none=>false

theorem waitsT_not{i:Nat}(h:waitsT ops t i=true){listed:Array Bool}(hi:listed.getD i true=false):t∉Region.ready .any ops listed:=fun hr=>by
 obtain⟨_,o,ho,hall⟩:=mem_ready.1 hr
 unfold waitsT at h
 rw[ho]at h
 obtain⟨e,he,hb⟩:=Array.any_eq_true'.1 h
 simp only[Bool.and_eq_true,beq_iff_eq]at hb
 have h1:=hall e he hb.1
 rw[hb.2]at h1
 rcases Nat.lt_or_ge i listed.size with h' | h'
 ·simp[h']at hi h1;rw[hi]at h1;cases h1
 ·simp[Array.getElem?_eq_none h']at h1

theorem AnyT.first{i:Nat}{oi:Oper}{v:Value}(hi:ops[i]? = some oi)(hsel:∀(j:Nat) (o:Oper) cs b,ops[j]? = some o→o.op≠.select cs b)(hw:waitsT ops t i=true)
  (hQ:∀c a w,Q (.panic c) (a.put oi.dst v) w→Q (.panic c) a w):
  ∀(n:Nat) (listed:Array Bool) (a:Act) (w:World),
   (∀j oj,ops[j]? = some oj→j≠i→listed.getD j true=false→(∀e∈oj.after,Region.binds .any e=true→e.on≠i)→oi.apart ops oj=true) →
   i∈Region.ready .any ops listed→i≠t→YieldsIf P ops S oi v a→S w →
   AnyT P ops Q S t n (listed.setIfInBounds i true) (a.put oi.dst v) w→AnyT P ops Q S t (n+1) listed a w:=by
 intro n
 induction n with
 | zero=>
  intro listed a w _ hr _ hy hS H
  refine⟨fun h=>(by rw[h]at hr;cases hr),fun j hj=>?_⟩
  by_cases hji:j=i
  ·subst hji;exact hy.wpOp hi hS ⟨fun _=>hS,H⟩
  ·have:=ready_mono hj hji
   rw[H.1]at this
   cases this
 | succ n ih=>
  intro listed a w hfree hr hit hy hS H
  refine⟨fun h=>(by rw[h]at hr;cases hr),fun j hj=>?_⟩
  by_cases hji:j=i
  ·subst hji;exact hy.wpOp hi hS ⟨fun _=>hS,H⟩
  ·have hun:=(mem_ready.1 hr).1
   have hjt:j≠t:=fun e=>waitsT_not hw hun (by rw[←e];exact hj)
   obtain⟨hjun,oj,hoj,hall⟩:=mem_ready.1 hj
   have hnot:∀e∈oj.after,Region.binds .any e=true→e.on≠i:=fun e he hb heq=>by
    have h1:=hall e he hb
    rw[heq]at h1
    rcases Nat.lt_or_ge i listed.size with h' | h'
    ·simp[h']at hun h1;rw[hun]at h1;cases h1
    ·simp[Array.getElem?_eq_none h']at h1
   have h2:=wpOp_putIf hoj (hfree j oj hoj hji hjun hnot) (fun cs b=>hsel i oi cs b hi) (fun cs b=>hsel j oj cs b hoj) hQ hy (H.2 j (ready_mono hj hji))
   have hfree':∀k ok,ops[k]? = some ok→k≠i→(listed.setIfInBounds j true).getD k true=false →
     (∀e∈ok.after,Region.binds .any e=true→e.on≠i)→oi.apart ops ok=true:=fun k ok hk hki hu hno=>by
    refine hfree k ok hk hki ?_ hno
    by_cases hjk:j=k
    ·subst hjk;exact hjun
    ·rw[getD_set_ne true hjk]at hu;exact hu
   refine wpOp_mono (fun a' w' h3=>⟨h3.2.1,ih (listed.setIfInBounds j true) a' w' hfree' (ready_mono hr (Ne.symm hji)) hit h3.1 (h3.2.1 hjt) ?_⟩) h2
   rw[Array.setIfInBounds_comm _ _ hji]
   exact h3.2.2

theorem AnyT.take{i:Nat}{oi:Oper}(v:Value){n:Nat}{listed:Array Bool}{a:Act}{w:World}(hi:ops[i]? = some oi)
  (hs:Region.noSelect ops=true) (hf:Region.free .any ops listed i=true) (hr:(Region.ready .any ops listed).contains i=true) (hit:i≠t) (hw:waitsT ops t i=true)
  (hQ:∀c a w,Q (.panic c) (a.put oi.dst v) w→Q (.panic c) a w) (hg:oi.guard=none) (hy:∀w,S w→(execOp a.eval oi).run P w=.ok (.value v) w) (hS:S w)
  (h:AnyT P ops Q S t n (listed.setIfInBounds i true) (a.put oi.dst v) w):AnyT P ops Q S t (n+1) listed a w:=
 AnyT.first hi (Region.noSelect_spec hs) hw hQ n listed a w (Region.free_spec hi hf) (by simpa using hr) hit (.inl ⟨by unfold Region.wanted;rw[hg],hy⟩) hS h

theorem AnyT.one(i:Nat){o:Oper}{n:Nat}{listed:Array Bool}{a:Act}{w:World}(hi:ops[i]? = some o)(hr:Region.ready .any ops listed=[i])
  (h:if Region.wanted o (yielded ops a.tmps)=true then Oper.wp P o a w (fun a' w'=>(i≠t→S w')∧AnyT P ops Q S t n (listed.setIfInBounds i true) a' w') Q else False):AnyT P ops Q S t (n+1) listed a w:=by
 refine⟨fun h0=>(by rw[hr]at h0;cases h0),fun j hj=>?_⟩
 rw[hr,List.mem_singleton]at hj
 subst hj
 unfold wpOp
 simp only[hi]
 split at h
 ·rename_i hw
  rw[if_pos hw]
  exact .inl h
 ·exact h.elim

theorem AnyT.done{listed:Array Bool}{a:Act}{w:World}(hr:Region.ready .any ops listed=[])(h:Q .normal a w):AnyT P ops Q S t 0 listed a w:=⟨hr,h⟩

theorem wp_region_T(S:World→Prop)(t n:Nat){id:Nat}{a:Act}{w:World}(hm:P.follows .mixedOrders=true)(hn:ops.size=n)
  (h:AnyT P ops Q S t n (Array.replicate n false) a w.drew):(Code.region id ops true).wp P Q a w:=
 wp_region_any hm (by rw[hn];exact AnyT.any n _ _ _ h)

theorem step_value{o:Oper}{a:Act}{w w':World}{K:Act→World→Prop}{E:Prop}(hg:o.guard=none)(v:Value)(hrun:(execOp a.eval o).run P w=.ok (.value v) w')(h:K (a.put o.dst v) w'):if Region.wanted o (yielded ops a.tmps)=true then Oper.wp P o a w K Q else E:=by
 rw[if_pos (by unfold Region.wanted;rw[hg])]
 unfold Oper.wp
 rw[hrun]
 exact h

theorem step_skip{o:Oper}{a:Act}{w w':World}{K:Act→World→Prop}{E:Prop}(hg:o.guard=none)(hrun:(execOp a.eval o).run P w=.ok .skip w')(h:K (a.put o.dst undef) w'):if Region.wanted o (yielded ops a.tmps)=true then Oper.wp P o a w K Q else E:=by
 rw[if_pos (by unfold Region.wanted;rw[hg])]
 unfold Oper.wp
 rw[hrun]
 exact h

end

end Go.Proofs.YtcfociogljhbiaaGreatDoor
