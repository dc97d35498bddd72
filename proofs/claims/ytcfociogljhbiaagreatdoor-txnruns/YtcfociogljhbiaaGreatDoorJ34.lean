/-
  Of the proof: parts TzX, TzK.
-/
import Derived.Test.YtcfociogljhbiaaGreatDoorJ33

namespace Go.Proofs.YtcfociogljhbiaaGreatDoor
open Go.RowKit Go.Maps Go.Sort Go.Shelf Go.Lib

set_option maxRecDepth 100000 in
set_option maxHeartbeats 1000000 in
theorem rof14_bad(w:World)(ao:Option Addr)(n c:Nat)(As:List Ad)(h:ArcI w (fun k=>k<w.heap.size) (.slice ao n c) As)(hn:n≤4096)(hc:ckL bx0 0 0 As≠0):Calls Tryz.prog 39 #[.slice ao n c] w fun e w'=>e=.returned (.tuple #[.slice none 0 0,.bool false])∧Same w w':=by
 have HC:=rcheck14 w ao n c As h (by omega)
 have d1:(ckL bx0 0 0 As != 0)=true:=by simpa[bne]using hc
 clear h hn hc
 go_enter Tryz.func39,Tryz.ntmps39
 go_wp2_with fail
 refine HC.mono ?_
 rintro e w1 ⟨rfl,hk1⟩
 have HK1:=hid hk1
 clear HC hk1
 go_wp2_with fail
 go_ret2
 exact⟨rfl,HK1.out⟩

set_option maxRecDepth 100000 in
set_option maxHeartbeats 1000000 in
theorem rnew14_bad(w:World)(ao:Option Addr)(n c:Nat)(As:List Ad)(t:Int)(h:ArcI w (fun k=>k<w.heap.size) (.slice ao n c) As)(hn:n≤4096)(hs:ckL bx0 0 0 As=0→∀x∈As,x.es.length≤64∧∀e∈x.es,e.2.size≤8192)(hb:t<0∨1000000000<t∨ckL bx0 0 0 As≠0):Calls Tryz.prog 11 #[.slice ao n c,.int .i64 t] w fun e w'=>e=.returned (.tuple #[.pointer none,.int .i64 1])∧Same w w':=by
 by_cases hc:ckL bx0 0 0 As=0
 ·have HO:=rof14_good w ao n c As h (hs hc) hn hc
  have HB:Hid (t<0∨1000000000<t):=hid (by
   rcases hb with e | e | e
   ·exact .inl e
   ·exact .inr e
   ·exact absurd hc e)
  clear h hn hs hb hc
  go_enter Tryz.func11,Tryz.ntmps11
  go_wp2_with fail
  refine HO.mono ?_
  rintro e w1 ⟨v,rfl,_,hk1⟩
  have HK1:=hid hk1
  clear HO hk1
  by_cases h1:t<0
  ·have d1:decide (t<0)=true:=decide_eq_true h1
   clear h1
   go_wp2_with fail
   go_ret2
   exact⟨rfl,HK1.out⟩
  ·have d1:decide (t<0)=false:=decide_eq_false h1
   have d2:decide ((1000000000:Int)<t)=true:=decide_eq_true (by have:=HB.out;omega)
   clear h1
   go_wp2_with fail
   go_ret2
   exact⟨rfl,HK1.out⟩
 ·have HO:=rof14_bad w ao n c As h hn hc
  clear h hn hs hb hc
  go_enter Tryz.func11,Tryz.ntmps11
  go_wp2_with fail
  refine HO.mono ?_
  rintro e w1 ⟨rfl,hk1⟩
  have HK1:=hid hk1
  clear HO hk1
  by_cases h1:t<0
  ·have d1:decide (t<0)=true:=decide_eq_true h1
   clear h1
   go_wp2_with fail
   go_ret2
   exact⟨rfl,HK1.out⟩
  ·have d1:decide (t<0)=false:=decide_eq_false h1
   by_cases h2:1000000000<t
   ·have d2:decide ((1000000000:Int)<t)=true:=decide_eq_true h2
    clear h1 h2
    go_wp2_with fail
    go_ret2
    exact⟨rfl,HK1.out⟩
   ·have d2:decide ((1000000000:Int)<t)=false:=decide_eq_false h2
    clear h1 h2
    go_wp2_with fail
    go_ret2
    exact⟨rfl,HK1.out⟩

def RnM(t:Int)(es:List Et)(w:World)(e:Ending)(w':World):Prop:=∃p g v,e=.returned (.tuple #[.pointer (some ⟨p,0,none⟩),.int .i64 0])∧Blk w' p #[.int .i64 t,.slice (some ⟨g,0,none⟩) 1 1,.slice none 0 0,.slice none 0 0,.int .i64 1] 103∧Blk w' g #[v] 96∧RowC w.heap.size 150 4 etE w' v es∧w.heap.size≤g∧w.heap.size≤p∧g≠p∧Same w w'

set_option maxRecDepth 100000 in
set_option maxHeartbeats 1000000 in
theorem rnew14_good(w:World)(ao:Option Addr)(n c:Nat)(As:List Ad)(t:Int)(h:ArcI w (fun k=>k<w.heap.size) (.slice ao n c) As)(hn:n≤4096)(hs:∀x∈As,x.es.length≤64∧∀e∈x.es,e.2.size≤8192)(ht:0≤t∧t≤1000000000)(hc:ckL bx0 0 0 As=0):Calls Tryz.prog 11 #[.slice ao n c,.int .i64 t] w fun e w'=>RnM t (etsOf14 As) w e w':=by
 have HO:=rof14_good w ao n c As h hs hn hc
 have d1:decide (t<0)=false:=decide_eq_false (by omega)
 have d2:decide ((1000000000:Int)<t)=false:=decide_eq_false (by omega)
 clear h hn hs ht hc
 go_enter Tryz.func11,Tryz.ntmps11
 go_wp2_with fail
 refine HO.mono ?_
 rintro e w1 ⟨v,rfl,hrow,hk1⟩
 have HK1:=hid hk1
 obtain⟨va,vq,hv,_⟩:=hrow.shape
 obtain⟨vn,hvn⟩:∃z,z=(etsOf14 As).length:=⟨_,rfl⟩
 rw[←hvn]at hv
 subst hv
 have HRW:=hid hrow
 clear HO hk1 hrow hvn
 go_wp2_with fail
 go_ret2
 have hb2:=Blk.new (w1.alloc (.cells #[.slice va vn vq] 96)) #[.int .i64 t,.slice (some ⟨w1.heap.size,0,none⟩) 1 1,.slice none 0 0,.slice none 0 0,.int .i64 1] 103
 rw[World.size_alloc]at hb2
 have hk:Same w1 ((w1.alloc (.cells #[.slice va vn vq] 96)).alloc (.cells #[.int .i64 t,.slice (some ⟨w1.heap.size,0,none⟩) 1 1,.slice none 0 0,.slice none 0 0,.int .i64 1] 103)):=((Kept.refl _ w1).alloc _).alloc _
 exact⟨w1.heap.size+1,w1.heap.size,.slice va vn vq,rfl,hb2,(Blk.new w1 _ _).kept (F:=fun _=>False) ((Kept.refl _ _).alloc _) (fun f=>f),HRW.out.kept hk (fun _ _ f=>f),HK1.out.size,Nat.le_succ_of_le HK1.out.size,by omega,HK1.out.trans hk⟩

end Go.Proofs.YtcfociogljhbiaaGreatDoor

namespace Go.Proofs.YtcfociogljhbiaaGreatDoor
open Go.RowKit Go.Maps Go.Sort Go.Shelf

theorem bl14_trans{a b c:ByteArray}(h:bl14 a b=true)(k:bl14 b c=true):bl14 a c=true:=by
 rw[bl14_lt]at h k ⊢
 exact List.lt_trans h k

theorem ceL_ok:∀(es:List (Nm×ByteArray)) (a:ByteArray),ceL a es=0→(∀e∈es,nam8 (sb e.1.s)=true∧e.2.size≤8192∧bl14 a e.1.s=true)∧es.Pairwise (fun e f=>bl14 e.1.s f.1.s=true)
 | [],_,_=>⟨fun e he=>(by cases he),List.Pairwise.nil⟩
 | x::r,a,h=>by
  rw[ceL]at h
  by_cases hc:(nam8 (sb x.1.s) && bl14 a x.1.s)=true
  ·rw[if_pos hc]at h
   by_cases hs:8192<x.2.size
   ·rw[if_pos hs]at h;cases h
   ·rw[if_neg hs]at h
    obtain⟨h1,h2⟩:=ceL_ok r x.1.s h
    rw[Bool.and_eq_true]at hc
    refine⟨fun e he=>?_,List.pairwise_cons.2 ⟨fun e he=>(h1 e he).2.2,h2⟩⟩
    rcases List.mem_cons.1 he with rfl | he
    ·exact⟨hc.1,by omega,hc.2⟩
    ·exact⟨(h1 e he).1,(h1 e he).2.1,bl14_trans hc.2 (h1 e he).2.2⟩
  ·rw[if_neg hc]at h;cases h

theorem chE14_ok{es:List (Nm×ByteArray)}(h:chE14 es=0):1≤es.length∧es.length≤64∧(∀e∈es,nam8 (sb e.1.s)=true∧e.2.size≤8192)∧es.Pairwise (fun e f=>bl14 e.1.s f.1.s=true):=by
 unfold chE14 at h
 by_cases h0:es.length=0
 ·rw[if_pos h0]at h;cases h
 ·rw[if_neg h0]at h
  by_cases h1:64<es.length
  ·rw[if_pos h1]at h;cases h
  ·rw[if_neg h1]at h
   obtain⟨h2,h3⟩:=ceL_ok es _ h
   exact⟨by omega,by omega,fun e he=>⟨(h2 e he).1,(h2 e he).2.1⟩,h3⟩

theorem ltB_trans14{a b c:Bx}(h:ltB a b)(k:ltB b c):ltB a c:=by
 unfold ltB at *
 rcases h with h | ⟨h1,h2⟩<;>rcases k with k | ⟨k1,k2⟩
 ·exact .inl (List.lt_trans h k)
 ·exact .inl (by rw[←k1];exact h)
 ·exact .inl (by rw[h1];exact k)
 ·exact .inr ⟨h1.trans k1,List.lt_trans h2 k2⟩

theorem ckL_ok:∀(As:List Ad) (p:Bx) (t a:Nat),ckL p t a As=0→(∀x∈As,sho x.b.tn=true∧sho x.b.ar=true∧chE14 x.es=0∧ltB p x.b)∧As.Pairwise (fun x y=>ltB x.b y.b)
 | [],_,_,_,_=>⟨fun e he=>(by cases he),List.Pairwise.nil⟩
 | x::r,p,t,a,h=>by
  rw[ckL]at h
  by_cases hc:(sho x.b.tn && sho x.b.ar && decide (cmpB p x.b<0))=true
  ·rw[if_pos hc]at h
   by_cases hl:16<(if x.b.tn=p.tn then a else 0)+1∨8<(if x.b.tn=p.tn then t else t+1)
   ·rw[if_pos hl]at h;cases h
   ·rw[if_neg hl]at h
    by_cases he:chE14 x.es=0
    ·rw[if_pos he]at h
     obtain⟨h1,h2⟩:=ckL_ok r _ _ _ h
     rw[Bool.and_eq_true,Bool.and_eq_true,decide_eq_true_eq,cmpB_lt]at hc
     refine⟨fun y hy=>?_,List.pairwise_cons.2 ⟨fun y hy=>(h1 y hy).2.2.2,h2⟩⟩
     rcases List.mem_cons.1 hy with rfl | hy
     ·exact⟨hc.1.1,hc.1.2,he,hc.2⟩
     ·exact⟨(h1 y hy).1,(h1 y hy).2.1,(h1 y hy).2.2.1,ltB_trans14 hc.2 (h1 y hy).2.2.2⟩
    ·rw[if_neg he]at h;exact absurd h he
  ·rw[if_neg hc]at h;cases h

theorem ck_ents14{As:List Ad}(h:ckL bx0 0 0 As=0):∀x∈As,x.es.length≤64∧∀e∈x.es,e.2.size≤8192:=fun x hx=>by
 obtain⟨_,h2,h3,_⟩:=chE14_ok ((ckL_ok As _ _ _ h).1 x hx).2.2.1
 exact⟨h2,fun e he=>(h3 e he).2⟩

end Go.Proofs.YtcfociogljhbiaaGreatDoor
