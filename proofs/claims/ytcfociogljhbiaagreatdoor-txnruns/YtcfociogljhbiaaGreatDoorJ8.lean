/-
  Of the proof: parts VaH.
-/
import Derived.Shelf.SlIter.Stops
import Derived.RangeFuncNested
import Derived.RangeFuncKeeps
import Derived.Laws.IdiomRangeMap
import Derived.Test.YtcfociogljhbiaaGreatDoorJ7

namespace Go.Proofs.YtcfociogljhbiaaGreatDoor
open Go.RowKit Go.Maps Go.Sort Go.Shelf

theorem keyE_inv{x:Value}{kl:Lit}(h:keyOf Tryz.prog 63 x=some kl):∃k:Ke,x=.agg #[.string k.1.tn,.string k.1.ar,.string k.2.s]∧kl=kK k:=by
 have h0:=h
 have hs0:0<Tryz.prog.types.size:=by decide +kernel
 have hsz:∃m,Tryz.prog.types.size=m+1:=⟨Tryz.prog.types.size-1,by omega⟩
 have hkt:Tryz.prog.keyType 63=true:=by kernel_rfl
 have hc:Tryz.prog.cellsOf 63=3:=by kernel_rfl
 have hc1:Tryz.prog.cellsOf 9=1:=by kernel_rfl
 obtain⟨m,hm⟩:=hsz
 unfold keyOf at h
 simp only[Tryz.underlying63]at h
 split at h
 ·rename_i hf
  obtain⟨ls,h1,_⟩:=Option.map_eq_some_iff.1 h
  rw[hkt,Bool.true_and]at hf
  cases x with
  | agg cs=>
   rw[hm]at h1
   unfold Program.keyLits at h1
   simp only[Tryz.underlying63,Value.cells]at h1
   split at h1
   ·rename_i hl
    rw[hc]at hl
    obtain⟨a,b,c,e⟩:∃a b c,cs.toList=[a,b,c]:=by
     have h2:=hl.1
     generalize cs.toList=l at h2
     rcases l with _ | ⟨a,_ | ⟨b,_ | ⟨c,_ | ⟨d,r⟩⟩⟩⟩
     ·simp at h2
     ·simp at h2
     ·simp at h2
     ·exact⟨a,b,c,rfl⟩
     ·simp at h2
    obtain rfl:cs=#[a,b,c]:=Array.toList_inj.1 e
    obtain⟨lls,h2,_⟩:=Option.map_eq_some_iff.1 h1
    simp only[List.mapM_cons,List.mapM_nil,bind,Option.bind_eq_some_iff,hc1]at h2
    obtain⟨l1,g1,_,⟨l2,g2,_,⟨l3,g3,_⟩,_⟩,_⟩:=h2
    obtain⟨s1,e1,_⟩:=keyLits_string' Tryz.underlying9 g1
    obtain⟨s2,e2,_⟩:=keyLits_string' Tryz.underlying9 g2
    obtain⟨s3,e3,_⟩:=keyLits_string' Tryz.underlying9 g3
    have e4:a=.string s1:=by simpa using e1
    have e5:b=.string s2:=by simpa using e2
    have e6:c=.string s3:=by simpa using e3
    subst e4 e5 e6
    have q1:s1.size≤maxLen:=by
     by_cases e:s1.size≤maxLen
     ·exact e
     ·simp[Program.keyLits,Tryz.underlying9,e]at g1
    have q2:s2.size≤maxLen:=by
     by_cases e:s2.size≤maxLen
     ·exact e
     ·simp[Program.keyLits,Tryz.underlying9,e]at g2
    have q3:s3.size≤maxLen:=by
     by_cases e:s3.size≤maxLen
     ·exact e
     ·simp[Program.keyLits,Tryz.underlying9,e]at g3
    refine⟨(⟨s1,s2,q1,q2⟩,⟨s3,q3⟩),rfl,?_⟩
    have h3:=keyE (⟨s1,s2,q1,q2⟩,⟨s3,q3⟩)
    unfold keV at h3
    simp only at h3
    rw[h0]at h3
    exact Option.some.inj h3
   ·cases h1
  | _=>simp[Value.formed,Tryz.underlying63]at hf
 ·cases h

theorem mpG_hasW{L:List (Ke×Wr)}{s:Ke}{y:DataW Unit}(h:∀z,(mpG kK wrD L).atKey (kK s) z=y):∃r,getG s L=some r∧y=wrD r:=by
 cases hg:getG s L with
 | none=>
  have h1:=h .nil
  have h2:=h (.lit (.int .i64 0))
  rw[mpG_at klK,hg]at h1 h2
  rw[←h1]at h2
  cases h2
 | some f=>
  have h1:=h .nil
  rw[mpG_at klK,hg]at h1
  exact⟨f,rfl,h1.symm⟩

theorem leftW_step(left:Lit→Bool)(s t:Ke):(left (kK t) && !(kK t).sameKey (kK s))=false↔left (kK t)=false∨t=s:=by
 rw[klK.same]
 by_cases e:t=s
 ·simp[e]
 ·simp[e]

theorem has_mpG(L:List (Ke×Wr)):∀p∈L,Maps.has (mpG kK wrD L) (kK p.1)=true:=by
 intro p hp
 unfold mpG Maps.has
 simp only[List.any_map,List.any_eq_true]
 exact⟨p,hp,by show(kK p.1).sameKey (kK p.1)=true;rw[klK.same];simp⟩

def ValsAre(L:List (Ke×Wr))(xs:List Wr):Prop:=(xs.map keO).Nodup∧(∀r,r∈xs↔getG (keO r) L=some r)∧xs.length≤L.length

set_option maxRecDepth 100000 in
set_option maxHeartbeats 2000000 in
theorem valsW_in(n l Bm mb:Nat)(hn:1≤n)(L:List (Ke×Wr))(hL:∀x∈L,keO x.2=x.1)(J Jx:List Wr→World→Prop)
  (hY:∀pre x W,J pre W→pre.length<L.length→YieldAt Fence.wide (n-1) Tryz.prog l #[wrV x] W fun e W'=>
   (e=.returned (.bool true)∧J (pre++[x]) W'∧KeepsWalks W W')∨(e=.returned (.bool false)∧Jx (pre++[x]) W'))
  (W:World) (hJ:AbidesFrom W.heap.size J) (hm:W.cell? ⟨Bm,0,none⟩=some (.map (some mb))) (hown:MpG 63 wrR kK wrD W mb L) (h0:J [] W):
  CallsIn Fence.wide n Tryz.prog 139 #[.func (.yield l) #[] #[],.pointer (some ⟨Bm,0,none⟩)] W fun e W'=>(∃v,e=.returned v) ∧
   ((∃xs:List Wr,ValsAre L xs∧J xs W')∨(∃pre:List Wr,True∧Jx pre W')):=by
 refine callsIn_of_wp Tryz.func139 rfl trivial ?_ rfl
 simp only[Tryz.ntmps139,List.size_toArray,List.length_cons,List.length_nil,Nat.reduceAdd,Nat.reduceSub,Array.replicate_succ,Array.replicate_zero,List.push_toArray,List.append_toArray,List.nil_append,List.cons_append]
 have HO:Hid (MpG 63 wrR kK wrD W mb L):=hown
 clear hown
 gi_wp2_with (first
  | (gi_at_range;refine wpListIn_range_own _ rfl _ 167 rfl 63 65 entKey Tryz.underlying167 wrR mb L.length (mpG kK wrD L) rfl HO.out ?_;intro w0 hrg0 hg0 hs0)
  | gi_in)
 go_frame
 gi_loopw [4] (fun _ wr=>∃(left:Lit→Bool) (cnt:Nat) (ss:List Wr),wr.ranges Tryz.prog 63 wrR mb W.heap.size L.length (mpG kK wrD L) left cnt∧ss.length+cnt≤L.length∧((ss.map keO).Nodup∧∀r,r∈ss↔getG (keO r) L=some r∧left (kK (keO r))=false)∧J ss wr)
  (fun _ wr=>wr.rangeLeft mb W.heap.size)
 case atStart=>
  refine⟨_,_,[],hrg0,?_,⟨List.Pairwise.nil,fun b=>?_⟩,hJ [] W w0 none h0 hg0 (fun r e=>by cases e)⟩
  ·rw[mpG_size];simp
  ·constructor
   ·intro e;cases e
   ·rintro⟨ha,hl⟩
    have:=has_mpG L _ (getG_mem ha)
    simp only at this
    rw[this]at hl
    cases hl
 case round=>
  obtain⟨left,cnt,ss,hrg,hcs,hC,hJs⟩:=hrel
  gi_wp2_with (first
   | (gi_at_next;refine wpListIn_next_ranges _ rfl _ rfl 63 entKey wrR (fun x:Value=>x) (fun x:Value=>x) (fun key kl _=>⟨key,rfl⟩) (fun v y _=>⟨v,rfl⟩) mb W.heap.size L.length (mpG kK wrD L) left cnt rfl hrg ?_ ?_)
   | gi_in)
  ·intro hc0 hl0
   gi_wp2
   go_end0
   exact⟨⟨_,rfl⟩,.inl ⟨ss,⟨hC.1,fun b=>by rw[hC.2 b];exact⟨fun e=>e.1,fun e=>⟨e,hl0 _⟩⟩,by omega⟩,hJs⟩⟩
  ·intro x c kl yd yp w2 cnt2 hkey hlk hv hat hrg2 hlt hg2 hs2 hen
   obtain⟨k,rfl,rfl⟩:=keyE_inv hkey
   obtain⟨r,hgn,rfl⟩:=mpG_hasW hat
   obtain rfl:c=wrV r:=wrR_inv _ _ _ hv
   have hkr:keO r=k:=hL _ (getG_mem hgn)
   have hJ2:J ss w2:=hJ ss wr w2 (some W.heap.size) hJs hg2 (fun r e=>by cases e;exact⟨Nat.le_refl _,hrg.iter_walk⟩)
   have hJ3:J ss (w2.alloc (.cells #[.string r.b.tn,.string r.b.ar,.string r.n.s,.bool r.there,.string r.data] 65)):=hJ ss w2 _ none hJ2 (World.grownBy_alloc w2 _ none) (fun r e=>by cases e)
   obtain⟨fn,tmps,assign,body,hy,hR⟩:=hY ss r _ hJ3 (by omega)
   unfold wrV wrE at hy hen
   clear hs2 hJ2 hJ3 hkey hv
   gi_wp2
   refine hR.mono ?_
   have hC2:((ss++[r]).map keO).Nodup∧∀r',r'∈ss++[r]↔getG (keO r') L=some r'∧(left (kK (keO r')) && !(kK (keO r')).sameKey (kK k))=false:=by
    have hnl:∀y∈ss,keO y≠k:=fun y hy e=>by have:=(hC.2 y).1 hy;rw[e,hlk]at this;cases this.2
    refine⟨?_,fun r'=>?_⟩
    ·rw[List.map_append,List.nodup_append]
     refine⟨hC.1,by simp,fun x hx y hy e=>?_⟩
     obtain⟨z,hz,rfl⟩:=List.mem_map.1 hx
     simp only[List.map_cons,List.map_nil,List.mem_singleton]at hy
     exact hnl z hz (by rw[e,hy,hkr])
    ·rw[List.mem_append,List.mem_singleton,leftW_step,hC.2]
     constructor
     ·rintro(e | e)
      ·exact⟨e.1,.inl e.2⟩
      ·subst e;exact⟨by rw[hkr];exact hgn,.inr hkr⟩
     ·rintro⟨e1,e2 | e2⟩
      ·exact .inl ⟨e1,e2⟩
      ·rw[e2,hgn]at e1;exact .inr (Option.some.inj e1).symm
   rintro e W3 (⟨rfl,hJ3,hk3⟩ | ⟨rfl,hJx3⟩)
   ·gi_wp2
    have hrg3:=(hrg2.alloc (.cells #[.string r.b.tn,.string r.b.ar,.string r.n.s,.bool r.there,.string r.data] 65)).of_walks hk3
    go_roundw
    case rel=>exact⟨_,cnt2,ss++[r],hrg3,by simp;omega,hC2,hJ3⟩
    case measure=>rw[hrg3.left_eq,hrg.left_eq];exact hlt
   ·gi_wp2
    refine bodyPost_ret (results_none rfl _ _ _) rfl ?_
    exact⟨⟨_,rfl⟩,.inr ⟨ss++[r],trivial,hJx3⟩⟩

theorem valsW_stops(n Bm mb:Nat)(hn:1≤n)(L:List (Ke×Wr))(hL:∀x∈L,keO x.2=x.1)(w:World)(hBm:Bm<w.heap.size)(hm:w.cell? ⟨Bm,0,none⟩=some (.map (some mb)))(hown:MpG 63 wrR kK wrD w mb L):
  SeqStopsK Fence.wide n Tryz.prog 139 #[.pointer (some ⟨Bm,0,none⟩)] (fun b=>#[wrV b]) KeepsWalks (ValsAre L) (fun _=>True) L.length w:=fun l J Jx W hW hJ _ hY h0=>by
 have hown':MpG 63 wrR kK wrD W mb L:=by
  have hbl:=hown.lt
  obtain⟨es,clock,hb,Ft,hs,hD⟩:=hown
  exact⟨es,clock,(hW.block mb hbl).trans hb,Ft,hs,hD⟩
 exact valsW_in n l Bm mb hn L hL J Jx hY W hJ ((hW.cell (p:=⟨Bm,0,none⟩) hBm).trans hm) hown' h0

theorem Tryz.infoWr:(Tryz.prog.info? 65).map (fun i=>(i.zero,i.size,i.bytes))=some (some (.agg #[.string ⟨#[]⟩,.string ⟨#[]⟩,.string ⟨#[]⟩,.bool false,.string ⟨#[]⟩]),5,72):=by kernel_rfl

def ApW(w:World)(B:Nat)(xs:List Wr)(W:World):Prop:=∃v,Blk W B #[v] 57∧RowC w.heap.size 65 5 wrE W v xs∧Same w W

theorem ApW.own(w:World)(B B0:Nat)(hB:w.heap.size≤B0):OwnFrom B0 (ApW w B):=fun xs W W' row h hg hr=>by
 obtain⟨v,h1,h2,h3⟩:=h
 have hk:Kept (fun k=>row=some k) W W':=(Kept.refl _ W).grown hg (fun k e=>.inl e)
 refine⟨v,h1.kept hk (fun e=>?_),h2.kept hk (fun k e e2=>?_),Kept.trans h3 hk (fun _ _ f=>f) (fun k hlt e=>?_)⟩
 ·obtain⟨_,o,ho,hc⟩:=hr B e
  have h4:=h1
  unfold Blk at h4
  rw[h4]at ho
  cases ho
  cases hc
 ·obtain⟨_,o,ho,hc⟩:=hr k e2
  rcases h2.2 with⟨rfl,_⟩ | ⟨g,cap,cur,rfl,_,hg2,_⟩
  ·cases e
  ·simp only[Value.ownBlock,Option.some.injEq]at e
   rw[←e,hg2]at ho
   cases ho
   cases hc
 ·have:=(hr k e).1;omega

theorem cellsAt_wr(w:World)(b:Wr):CellsAt (w.alloc (.cells #[.string b.b.tn,.string b.b.ar,.string b.n.s,.bool b.there,.string b.data] 65)) ⟨w.heap.size,0,none⟩ ([b].flatMap wrE):=by
 intro j u hj
 match j,hj with
 | 0,hj=>simp[wrE]at hj;subst hj;simp[addAt]
 | 1,hj=>simp[wrE]at hj;subst hj;simp[addAt]
 | 2,hj=>simp[wrE]at hj;subst hj;simp[addAt]
 | 3,hj=>simp[wrE]at hj;subst hj;simp[addAt]
 | 4,hj=>simp[wrE]at hj;subst hj;simp[addAt]
 | j+5,hj=>simp[wrE]at hj

theorem rowWr_ne{w:World}{N B:Nat}{v u:Value}{xs:List Wr}(h:RowC N 65 5 wrE w v xs)(hb:Blk w B #[u] 57):¬v.ownBlock=some B:=by
 intro e
 rcases h.2 with⟨rfl,_⟩ | ⟨g,cap,cur,rfl,_,hg,_⟩
 ·cases e
 ·simp only[Value.ownBlock,Option.some.injEq]at e
  unfold Blk at hb
  rw[e,hb]at hg
  cases hg

theorem wpListIn_appendW{F:Fence}{n:Nat}{ops:Array Oper}{rest:List Oper}{o:Oper}{a:Act}{Q:Exit→Act→World→Prop}(w:World)(s x:Operand)(hgd:o.guard=none)
  (ho:o.op=.call {callee:=.builtin .append,args:=#[s,x],argTypes:=#[57,57]}) (B:Nat)
  (v:Value) (xs:List Wr) (hs:a.eval s=v) (hrow:RowC B 65 5 wrE w v xs) (ad:Addr) (b:Wr) (hx:a.eval x=.slice (some ad) 1 1) (hcs:CellsAt w ad ([b].flatMap wrE)) (hlen:xs.length≤1000000) (hB:B≤w.heap.size)
  (h:∀v' w',RowC B 65 5 wrE w' v' (xs++[b])→w.grownBy w' v.ownBlock→wpListIn F n Tryz.prog ops Q rest (a.put o.dst v') w'):wpListIn F n Tryz.prog ops Q (o::rest) a w:=by
 obtain⟨i0,hi,hz0,hz1,hz2⟩:=info_parts Tryz.infoWr
 refine wpListIn_append_own w hgd s x 57 ho B 65 i0 (.agg #[.string ⟨#[]⟩,.string ⟨#[]⟩,.string ⟨#[]⟩,.bool false,.string ⟨#[]⟩]) 5 72 Tryz.underlying57 hi hz0 hz1 hz2 rfl (by decide) v xs.length (xs.flatMap wrE) hs hrow ad 1 1 ([b].flatMap wrE) hx rfl hcs (flat_one wrE_ok [b]) (by simp only[maxLen];omega) (by omega) hB ?_
 intro v' w' h1 h2 _
 refine h v' w' ?_ h2
 unfold RowC
 rw[List.length_append,List.flatMap_append]
 exact h1

set_option maxRecDepth 100000 in
set_option maxHeartbeats 4000000 in
theorem appendSeqW(gf:Nat)(lb:Array Value)(eg:∀args w,(callFunc gf args).run Tryz.prog w=.ok (.enter gf args) w)(S:List Wr→Prop)(N:Nat)(hN:N≤100000)(w:World)(hseq:SeqStopsK Fence.wide 4 Tryz.prog gf lb (fun b=>#[wrV b]) KeepsWalks S (fun _=>True) N w):
  CallsIn Fence.wide 5 Tryz.prog 161 #[.slice none 0 0,.func (.func gf) #[] lb] w fun e w'=>∃v xs,e=.returned v∧S xs∧RowC w.heap.size 65 5 wrE w' v xs∧Same w w':=by
 refine callsIn_of_wp_marks Tryz.func161 rfl trivial ?_ rfl
 simp only[Tryz.ntmps161,List.size_toArray,List.length_cons,List.length_nil,Nat.reduceAdd,Nat.reduceSub,Array.replicate_succ,Array.replicate_zero,List.push_toArray,List.append_toArray,List.nil_append,List.cons_append]
 gi_wp2
 obtain⟨W0,hW0⟩:∃W,W=w.alloc (.cells #[.slice none 0 0] 57):=⟨_,rfl⟩
 rw[←hW0]
 have hs0:W0.heap.size=w.heap.size+1:=by rw[hW0];simp
 have hb0:Below w.heap.size w W0:=by rw[hW0];exact(Below.refl _ w).alloc (Nat.le_refl _) _
 have h00:ApW w w.heap.size [] W0:=⟨_,by rw[hW0];exact Blk.new w _ _,RowC.nil,by rw[hW0];exact(Kept.refl _ w).alloc _⟩
 obtain⟨B,hB⟩:∃B,B=w.heap.size:=⟨_,rfl⟩
 rw[←hB]at h00 ⊢
 have HB0:Hid (B=w.heap.size∧W0.heap.size=w.heap.size+1):=hid ⟨hB,hs0⟩
 clear hB hW0
 refine wpIn_rangeFunc_ownH (α:=Wr) (encs:=fun b=>#[wrV b]) (Kp:=KeepsWalks) (S:=S) (Sp:=fun _=>True) (N:=N) (w0:=w) rfl (by decide) rfl trivial eg hseq (fun h k=>h.trans k) (fun W l o o' _ h1 _ h3=>KeepsWalks.putObj o' h1 h3) hb0 (fun x=>rfl)
  (ApW w B) (fun _ _ _=>False) (ApW.own w _ _ (by have:=HB0.out;omega)) (fun _ _ _ _ _ f=>f.elim) h00 (fun x a' W=>∃g,a'={tmps:=#[.slice none 0 0,.func (.func gf) #[] lb,.pointer (some ⟨B,0,none⟩),undef,.slice none 0 0,.pointer (some ⟨g,0,none⟩),.func (.func gf) #[] lb,wrV x,undef,undef,undef,undef,undef],defers:=[]}∧B<g∧Blk W g #[.string x.b.tn,.string x.b.ar,.string x.n.s,.bool x.there,.string x.data] 65) ?_ ?_ ?_ ?_ ?_
 ·intro x a' u W W' row h hg hr
  obtain⟨g,h1,h2,h3⟩:=h
  have hk:Kept (fun k=>row=some k) W W':=(Kept.refl _ W).grown hg (fun k e=>.inl e)
  refine⟨g,h1,h2,h3.kept hk (fun e=>?_)⟩
  obtain⟨_,o,ho,hc⟩:=hr g e
  have h4:=h3
  unfold Blk at h4
  rw[h4]at ho
  cases ho
  cases hc
 ·intro l pre x W K hi hK
  have hi2:=hi
  obtain⟨v,h1,h2,h3⟩:=hi2
  have hlt:=h1.lt
  have hKW:=hK _ (W.alloc (.cells #[.string x.b.tn,.string x.b.ar,.string x.n.s,.bool x.there,.string x.data] 65)) ⟨by simp,fun k o _ h _=>by rw[Below.heap_alloc _ _ k (Array.getElem?_eq_some_iff.1 h).1];exact h⟩ (KeepsWalks.alloc _ _) (ApW.own w B w.heap.size (Nat.le_refl _) pre W _ none hi (World.grownBy_alloc W _ none) (fun r e=>by cases e)) ⟨W.heap.size,rfl,hlt,Blk.new W _ _⟩
  clear hi hK h1 h2 h3 hlt hseq
  unfold wrV wrE at *
  gi_wp2_with gi_round_op_a
  exact hKW
 ·intro l pre x a' W hl hloop hi hax hpre
  obtain⟨g,rfl,hBg,hbg⟩:=hax
  obtain⟨v,hb,hrow,hsame⟩:=hi
  obtain⟨a0,c0,hv,_⟩:=hrow.shape
  obtain⟨l0,hl0⟩:∃x,x=pre.length:=⟨_,rfl⟩
  rw[←hl0]at hv
  subst hv
  have cB:W.cell? ⟨B,0,none⟩=some (.slice a0 l0 c0):=hb.cell 0
  have zB:=hb.frozen 0
  have c0':=hbg.cell 0
  have c1':=hbg.cell 1
  have c2':=hbg.cell 2
  have c3':=hbg.cell 3
  have c4':=hbg.cell 4
  simp at c0' c1' c2' c3' c4'
  have HR:Hid (RowC w.heap.size 65 5 wrE W (.slice a0 l0 c0) pre∧Same w W∧Blk W B #[.slice a0 l0 c0] 57):=hid ⟨hrow,hsame,hb⟩
  have HQ:Hid (pre.length<N∧B=w.heap.size):=hid ⟨hpre,HB0.out.1⟩
  clear hb hrow hsame hbg hl0 hseq hloop hpre
  gi_wp2_with (first
   | (gi_at_builtin;refine wpListIn_appendW _ (.tmp 8) (.tmp 10) rfl rfl w.heap.size (.slice a0 l0 c0) pre rfl (HR.out.1.kept (show Same _ _ from(Kept.refl _ _).alloc _) (fun _ _ f=>f)) ⟨W.heap.size,0,none⟩ x rfl (cellsAt_wr _ _) (by have:=HQ.out.1;omega) (by have:=HR.out.2.1.size;simp;omega) ?_;intro v5 w5 hr5 hg5
      have hk5:Kept (fun k=>(Value.slice a0 l0 c0).ownBlock=some k) W w5:=Kept.trans (F:=fun _=>False) ((Kept.refl _ W).alloc _) ((Kept.refl _ _).grown hg5 (fun k e=>.inl e)) (fun _ _ f=>False.elim f) (fun _ _ e=>e)
      have hnB:¬(Value.slice a0 l0 c0).ownBlock=some B:=fun e=>rowWr_ne HR.out.1 HR.out.2.2 e
      have cB:=(HR.out.2.2.kept hk5 hnB).cell 0
      have zB:=(HR.out.2.2.kept hk5 hnB).frozen 0
      simp at cB
      obtain⟨a5,c5,hv5,_⟩:=hr5.shape
      subst hv5
      go_frame)
   | gi_round_op_a)
  have hrc:∀k,(Value.slice a0 l0 c0).ownBlock=some k→∃cur t fr,W.heap[k]? = some (.cells cur t fr):=fun k e=>by
   rcases HR.out.1.2 with⟨e2,_⟩ | ⟨g',cap,cur,e2,_,hg,_⟩
   ·rw[e2]at e;cases e
   ·rw[e2]at e
    simp only[Value.ownBlock,Option.some.injEq]at e
    rw[←e];exact⟨_,_,_,hg⟩
  have hk6:Kept (fun k=>(Value.slice a0 l0 c0).ownBlock=some k∨k=B) W (w5.setCell ⟨B,0,none⟩ (.slice a5 (pre.length+1) c5)):=(hk5.mono (fun _ _ e=>.inl e)).setCell _ _ (.inl (.inr rfl))
  have hkeep:∀(k:Nat) (o:Obj),W.heap[k]? = some o→o.isCells=false→(w5.setCell ⟨B,0,none⟩ (.slice a5 (pre.length+1) c5)).heap[k]? = some o:=fun k o ho hc=>by
   rw[hk6.block k (Array.getElem?_eq_some_iff.1 ho).1 (fun e=>?_)]
   ·exact ho
   ·rcases e with e | e
    ·obtain⟨cur,t,fr,h9⟩:=hrc k e
     rw[h9]at ho;cases ho;cases hc
    ·have h9:=HR.out.2.2
     unfold Blk at h9
     rw[e,h9]at ho;cases ho;cases hc
  refine⟨⟨hk6.size,fun k o _ ho hc=>hkeep k o ho hc⟩,⟨hk6.size,fun k o ho hw=>hkeep k o ho (by cases o<;>simp_all[Obj.isWalk,Obj.isCells])⟩,.slice a5 (pre.length+1) c5,?_,?_,?_⟩
  ·have h9:=(HR.out.2.2.kept hk5 hnB).set 0 (.slice a5 (pre.length+1) c5)
   simpa using h9
  ·have hr6:RowC w.heap.size 65 5 wrE w5 (.slice a5 (pre.length+1) c5) (pre++[x]):=by simpa using hr5
   exact hr6.kept (F:=(·=B)) ((Kept.refl _ _).setCell _ _ (.inl rfl)) (fun j e e2=>by subst e2;exact rowWr_ne hr6 (HR.out.2.2.kept hk5 hnB) e)
  ·refine Kept.trans HR.out.2.1 hk6 (fun _ _ f=>f) (fun k hlt e=>?_)
   rcases e with e | e
   ·have:=HR.out.1.ge e;omega
   ·have:=HQ.out.2;omega
 ·intro D xs W hD hS hi hd
  obtain⟨v,hb,hrow,hsame⟩:=hi
  obtain⟨a0,c0,hv,_⟩:=hrow.shape
  obtain⟨l0,hl0⟩:∃x,x=xs.length:=⟨_,rfl⟩
  rw[←hl0]at hv
  subst hv
  have cB:W.cell? ⟨B,0,none⟩=some (.slice a0 l0 c0):=hb.cell 0
  have HF:Hid (S xs∧RowC w.heap.size 65 5 wrE W (.slice a0 l0 c0) xs∧Same w W):=hid ⟨hS,hrow,hsame⟩
  have HD:Hid (w.heap.size≤D∧W.heap[D]? = some (.deferred (some []))):=hid ⟨by have:=HB0.out;omega,hd⟩
  clear hb hrow hsame hl0 hS hd hD hseq
  gi_wp2
  refine⟨by simp,.inl ⟨_,_,rfl,run_takeDeferred HD.out.2,?_⟩⟩
  have hg:=grownBy_putObj_a W D (.deferred none)
  have hk:Kept (·=D) W (W.putObj D (.deferred none)):=(Kept.refl _ W).grown hg (fun k e=>.inl (by simpa using e.symm))
  refine⟨_,results_tmp rfl _ _ _,?_⟩
  refine⟨.slice a0 l0 c0,xs,rfl,HF.out.1,HF.out.2.1.kept hk (fun k e e2=>?_),Kept.trans HF.out.2.2 hk (fun _ _ f=>f) (fun k hlt e=>by have:=HD.out.1;omega)⟩
  subst e2
  rcases HF.out.2.1.2 with⟨e3,_⟩ | ⟨g',cap,cur,e3,_,hg3,_⟩
  ·rw[e3]at e;cases e
  ·rw[e3]at e
   simp only[Value.ownBlock,Option.some.injEq]at e
   rw[e,HD.out.2]at hg3
   cases hg3
 ·exact fun _ _ _ _ _ _ f=>f.elim

theorem collectW(L:List (Ke×Wr))(hk0:∀x∈L,keO x.2=x.1)(mb:Nat)(w:World)(hL:L.length≤100000)(hown:MpG 63 wrR kK wrD w mb L):
  Calls Tryz.prog 137 #[.func (.func 139) #[] #[.pointer (some ⟨w.heap.size,0,none⟩)]] (w.alloc (.cells #[.map (some mb)] 167)) fun e w'=>∃v xs,e=.returned v∧ValsAre L xs∧RowC (w.heap.size+1) 65 5 wrE w' v xs∧Same w w':=by
 have hA:=appendSeqW 139 #[.pointer (some ⟨w.heap.size,0,none⟩)] (enters_of Tryz.func139 (by kernel_rfl) rfl) (ValsAre L) L.length hL (w.alloc (.cells #[.map (some mb)] 167))
  (valsW_stops 4 w.heap.size mb (by decide) L hk0 _ (by simp) ((Blk.new w #[.map (some mb)] 167).cell 0) (hown.kept (F:=fun _=>False) ((Kept.refl _ _).alloc _) (fun f=>f)))
 have HA:=callsIn_wide.1 hA
 rw[World.size_alloc]at HA
 clear hA hown
 go_enter Tryz.func137,Tryz.ntmps137
 go_wp2_with fail
 refine HA.mono ?_
 rintro e w' ⟨v,xs,rfl,h1,h2,h3⟩
 have HF:Hid (ValsAre L xs∧RowC (w.heap.size+1) 65 5 wrE w' v xs∧Same w w'):=hid ⟨h1,h2,Same.trans ((Kept.refl _ w).alloc _) h3⟩
 obtain⟨a0,c0,hv,_⟩:=h2.shape
 obtain⟨l0,hl0⟩:∃x,x=xs.length:=⟨_,rfl⟩
 rw[←hl0]at hv
 subst hv
 clear h1 h2 h3 HA hl0
 go_wp2_with fail
 go_ret
 exact⟨_,xs,rfl,HF.out⟩

end Go.Proofs.YtcfociogljhbiaaGreatDoor
