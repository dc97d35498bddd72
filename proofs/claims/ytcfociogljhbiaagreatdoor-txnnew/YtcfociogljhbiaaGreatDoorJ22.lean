/-
  Of the proof: parts ChV, ChZ.
-/
import Derived.Sort.OwnSorted
import Derived.Laws.IdiomRangeMap
import Derived.Test.YtcfociogljhbiaaGreatDoorJ17
import Derived.Test.YtcfociogljhbiaaGreatDoorJ21

namespace Go.Proofs.YtcfociogljhbiaaGreatDoor
open Go.RowKit Go.Maps Go.Sort

theorem nmV_one(l:List Nm):∀u∈l.map nmV,u.oneCell'=true:=by
 intro u hu
 obtain⟨x,_,rfl⟩:=List.mem_map.1 hu
 rfl

theorem nmV_enc(n:Nm):nmV n=encStr (bysN n):=by
 show Value.string n.s=Value.string ⟨n.s.data.toList.toArray⟩
 rw[Array.toArray_toList]

def leN(a b:Nm):Bool:=decide (bysN a≤bysN b)

def RisN(l:List Nm):Prop:=l.Pairwise (fun a b=>bysN a<bysN b)

theorem Tryz.infoStr:(Tryz.prog.info? 9).map (fun i=>(i.zero,i.size,i.bytes))=some (some (.string ⟨#[]⟩),1,16):=by kernel_rfl

theorem sortN_any(w:World)(B:Nat)(v:Value)(L:List Nm)(h:RowE B 9 nmV w v L)(hl:L.length≤1000000):
  Calls Tryz.prog 112 #[v] w fun e w'=>e=.returned (.tuple #[])∧RowE B 9 nmV w' v (L.mergeSort leN)∧Kept (fun k=>v.ownBlock=some k) w w':=by
 have hm:(L.mergeSort leN).map bysN=(L.map bysN).mergeSort (fun x y=>decide (x≤y)):=List.map_mergeSort (fun a _ b _=>rfl)
 have he:(L.mergeSort leN).map nmV=((L.map bysN).mergeSort (fun x y=>decide (x≤y))).map encStr:=by
  rw[←hm,List.map_map]
  exact List.map_congr_left (fun n _=>nmV_enc n)
 have he0:L.map nmV=(L.map bysN).map encStr:=by
  rw[List.map_map]
  exact List.map_congr_left (fun n _=>nmV_enc n)
 have hlen:((L.map bysN).mergeSort (fun x y=>decide (x≤y))).length=(L.map bysN).length:=List.length_mergeSort _
 have h':RowE B 9 encStr w v (L.map bysN):=h.recode he0.symm
 rcases h'.2 with⟨hv,h0⟩ | ⟨g,cap,cur,hv,hb,hg,hn,hc,hcs,ht⟩
 ·subst hv
  have hz:L=[]:=List.eq_nil_of_length_eq_zero (by simpa using h0)
  subst hz
  refine(AnyM.slices_Sort_string_none Tryz.sort12 none 0 w).mono (fun e w' hh=>?_)
  obtain⟨rfl,rfl⟩:=hh
  exact⟨rfl,by simpa using RowE.nil,Kept.refl _ _⟩
 ·subst hv
  have hH:Go.Sort.Holds encStr w g 0 (L.map bysN).toArray:=holds_of_block hg (by rw[Nat.mul_one]at ht;exact ht)
  refine(AnyM.slices_Sort_string Tryz.sort12 g 0 cap (L.map bysN) w hH (Array.getElem?_eq_some_iff.1 hg).1 (by simp;omega)).mono (fun e w' hh=>?_)
  obtain⟨rfl,n,os,rfl⟩:=hh
  refine⟨rfl,?_,(Kept.refl _ w).grown (grownBy_sorted _) (fun k e=>.inl e)⟩
  refine RowE.recode (enc:=encStr) (xs:=(L.map bysN).mergeSort (fun x y=>decide (x≤y))) ?_ he
  show World.ownsRow _ _ _ _ _ _ _
  rw[hlen]
  exact ownsRow_sorted hlen hb hg (by simpa using hn) hc (by simpa using hcs)

theorem sortN_ris{L:List Nm}(h:L.Nodup):RisN (L.mergeSort leN):=by
 have h1:(L.mergeSort leN).Pairwise (fun a b=>leN a b=true):=List.pairwise_mergeSort (fun a b c h1 h2=>by
  unfold leN at *
  simp only[decide_eq_true_eq]at *
  exact List.le_trans h1 h2) (fun a b=>by
  unfold leN
  simp only[Bool.or_eq_true,decide_eq_true_eq]
  exact List.le_total _ _) L
 have h2:(L.mergeSort leN).Nodup:=(List.mergeSort_perm L leN).nodup_iff.2 h
 unfold RisN
 refine(h1.and h2).imp (fun {a b} h3=>?_)
 have h4:bysN a≤bysN b:=by simpa[leN]using h3.1
 rcases List.le_iff_lt_or_eq.1 h4 with h5 | h5
 ·exact h5
 ·exact absurd (bysN_inj h5) h3.2

def LisA(w:World)(f:Nm→Bool)(e:Ending)(w':World):Prop:=∃v L,e=.returned v∧RowE w.heap.size 9 nmV w' v L∧RisN L∧(∀n,n∈L↔f n=true)∧L.length≤100000∧Same w w'

def isTh(l:List Ver)(t:Int):Bool:=(newV l t).there

structure LiI(w wr:World)(A:List (Nm×Nat))(a r:Nat)(f:Nm→Bool)(L:List Nm)(left:Lit→Bool)(cnt:Nat)(v:Value):Prop where
 rg:wr.ranges Tryz.prog 9 ptC a r A.length (mpD kN A) left cnt
 row:RowE w.heap.size 9 nmV wr v L
 same:Same w wr
 nod:L.Nodup
 mem:∀n,n∈L↔(∃c,getK n A=some c)∧left (kN n)=false∧f n=true
 len:L.length+cnt≤A.length

theorem LiLen{w:World}{A:List (Nm×Nat)}{a r cnt:Nat}{left:Lit→Bool}(h:w.ranges Tryz.prog 9 ptC a r A.length (mpD kN A) left cnt):cnt≤A.length:=by
 obtain⟨es,clock,since,seen,c0,h1,h2,h3,h4,h5,h6,h7,_⟩:=h
 have:(leftOf es seen).size≤es.size:=by unfold leftOf;exact Array.size_filter_le
 omega

theorem rowE_iter{w:World}{B t:Nat}{v:Value}{L:List Nm}{A:List (Nm×Nat)}{a r n cnt:Nat}{left:Lit→Bool}(h:RowE B t nmV w v L)(hr:w.ranges Tryz.prog 9 ptC a r n (mpD kN A) left cnt):∀k,v.ownBlock=some k→¬k=r:=by
 intro k e e2
 obtain⟨es,clock,since,seen,c0,_,_,_,_,h5,_⟩:=hr
 rcases h.2 with⟨rfl,_⟩ | ⟨g,cap,cur,rfl,_,hg,_⟩
 ·cases e
 ·simp only[Value.ownBlock,Option.some.injEq]at e
  rw[e,e2,h5]at hg
  cases hg

theorem rowE_map{w:World}{B t:Nat}{v:Value}{L:List Nm}{A:List (Nm×Nat)}{a r n cnt:Nat}{left:Lit→Bool}(h:RowE B t nmV w v L)(hr:w.ranges Tryz.prog 9 ptC a r n (mpD kN A) left cnt):∀k,v.ownBlock=some k→¬k=a:=by
 intro k e e2
 obtain⟨es,clock,since,seen,c0,h5,_⟩:=hr
 rcases h.2 with⟨rfl,_⟩ | ⟨g,cap,cur,rfl,_,hg,_⟩
 ·cases e
 ·simp only[Value.ownBlock,Option.some.injEq]at e
  rw[e,e2,h5]at hg
  cases hg

theorem LiI.next{w wr:World}{A:List (Nm×Nat)}{a r:Nat}{f:Nm→Bool}{L:List Nm}{left:Lit→Bool}{cnt:Nat}{v:Value}(h:LiI w wr A a r f L left cnt v){n:Nm}{c cnt2:Nat}(hg:getK n A=some c)(hl:left (kN n)=true)(_hc:cnt2<cnt):
  (f n=true→(L++[n]).Nodup∧∀m,m∈L++[n]↔(∃c,getK m A=some c)∧(left (kN m) && !(kN m).sameKey (kN n))=false∧f m=true) ∧
  (f n=false→∀m,m∈L↔(∃c,getK m A=some c)∧(left (kN m) && !(kN m).sameKey (kN n))=false∧f m=true):=by
 have hnl:n∉L:=fun e=>by have:=(h.mem n).1 e;rw[hl]at this;cases this.2.1
 refine⟨fun hf=>⟨?_,fun m=>?_⟩,fun hf m=>?_⟩
 ·rw[List.nodup_append]
  refine⟨h.nod,by simp,fun x hx y hy e=>?_⟩
  rw[List.mem_singleton]at hy
  exact hnl (by rw[←hy,←e];exact hx)
 ·rw[List.mem_append,List.mem_singleton,left_step klN,h.mem]
  constructor
  ·rintro(e | e)
   ·exact⟨e.1,.inl e.2.1,e.2.2⟩
   ·subst e;exact⟨⟨c,hg⟩,.inr rfl,hf⟩
  ·rintro⟨e1,e2 | e2,e3⟩
   ·exact .inl ⟨e1,e2,e3⟩
   ·exact .inr e2
 ·rw[left_step klN,h.mem]
  constructor
  ·intro e
   exact⟨e.1,.inl e.2.1,e.2.2⟩
  ·rintro⟨e1,e2 | e2,e3⟩
   ·exact⟨e1,e2,e3⟩
   ·rw[e2,hf]at e3;cases e3

set_option maxRecDepth 100000 in
set_option maxHeartbeats 2000000 in
theorem list_none{K N:Nat}{w:World}{p:Nat}{s:Cs}{ρ:Nat→Nat}{mb:Nat}(h:Ck K N w p s ρ mb)(b:Bx)(t:Int)(hg:getK b s.bx=none):
  Calls Tryz.prog 111 #[.pointer (some ⟨p,0,none⟩),.agg #[.string b.tn,.string b.ar],.int .i64 t] w fun e w'=>LisA w (fun n=>isTh (vers s b n) (max t s.floor)) e w':=by
 obtain⟨wA,hwA⟩:∃W,W=w.alloc (.cells #[.string b.tn,.string b.ar] 128):=⟨_,rfl⟩
 have hka:Same w wA:=by rw[hwA];exact(Kept.refl _ w).alloc _
 obtain⟨xb,hxb⟩:∃x,x=w.heap.size:=⟨_,rfl⟩
 have BA:Blk wA xb #[.string b.tn,.string b.ar] 128:=by rw[hwA,hxb];exact Blk.new w _ _
 have l1:=((h.same hka).same (w':=wA.drew) (Kept.refl _ wA).drew).look1 b
 rw[hg]at l1
 have p2:wA.cell? ⟨p,2,none⟩=some (.map (some mb)):=(h.same hka).blk.cell 2
 have y0:=BA.cell 0
 have y1:=BA.cell 1
 simp at y0 y1
 have hrg:=run_range_nilMap (P:=Tryz.prog) wA.drew 176 9 143 Tryz.underlying176
 have HF:Hid (∀n,isTh (vers s b n) (max t s.floor)=false):=hid (fun n=>by
  have:vers s b n=[]:=by unfold vers fndC;rw[hg];rfl
  rw[this];rfl)
 have HKA:Hid (Same w wA):=hka
 clear h BA hg hka
 go_enter Tryz.func111,Tryz.ntmps111
 go_upto_region 4 with fail
 rw[←hwA,←hxb]
 clear hwA hxb
 go_region
 have hnx:∀ty,(Instr.next (.pointer (some ⟨wA.heap.size,0,none⟩)) false ty).run Tryz.prog (wA.alloc (.mapIter none 0 #[] 0)).drew=_:=fun ty=>run_next_nilMap wA.drew ty 0 0 #[]
 clear hrg l1 p2 y0 y1
 go_wp2_with fail
 refine wp_loop_rounds 1 ?_
 rw[rounds_succ]
 go_wp2_with fail
 refine(sortN_any _ w.heap.size (.slice none 0 0) [] RowE.nil (by simp)).mono ?_
 rintro e w5 ⟨rfl,hr5,hk5⟩
 have HK5:Hid (Same w w5):=hid (Same.trans ((HKA.out.alloc _).drew) (hk5.mono (fun k _ e=>by cases e)))
 clear hk5 hr5 hnx
 go_wp2_with fail
 go_ret
 refine⟨_,[],rfl,RowE.nil,List.Pairwise.nil,fun n=>?_,by simp,HK5.out⟩
 show n∈([]:List Nm)↔isTh (vers s b n) (max t s.floor)=true
 rw[HF.out n]
 simp

set_option maxRecDepth 100000 in
set_option maxHeartbeats 2000000 in
theorem list_some{K N:Nat}{w:World}{p:Nat}{s:Cs}{ρ:Nat→Nat}{mb:Nat}(h:Ck K N w p s ρ mb)(b:Bx)(t:Int)(a:Nat)(hg:getK b s.bx=some a):
  Calls Tryz.prog 111 #[.pointer (some ⟨p,0,none⟩),.agg #[.string b.tn,.string b.ar],.int .i64 t] w fun e w'=>LisA w (fun n=>isTh (vers s b n) (max t s.floor)) e w':=by
 have ha3:=h.ba _ (getK_mem hg)
 obtain⟨wA,hwA⟩:∃W,W=w.alloc (.cells #[.string b.tn,.string b.ar] 128):=⟨_,rfl⟩
 have hka:Same w wA:=by rw[hwA];exact(Kept.refl _ w).alloc _
 obtain⟨xb,hxb⟩:∃x,x=w.heap.size:=⟨_,rfl⟩
 have BA:Blk wA xb #[.string b.tn,.string b.ar] 128:=by rw[hwA,hxb];exact Blk.new w _ _
 have l1:=((h.same hka).same (w':=wA.drew) (Kept.refl _ wA).drew).look1 b
 rw[hg]at l1
 have p2:wA.cell? ⟨p,2,none⟩=some (.map (some mb)):=(h.same hka).blk.cell 2
 have y0:=BA.cell 0
 have y1:=BA.cell 1
 simp at y0 y1
 obtain⟨w0,hrg,hrg0,hg0,hs0⟩:=World.ownsMap.range (t:=176) (((h.same hka).same (w':=wA.drew) (Kept.refl _ wA).drew).am a ha3) nameKey Tryz.underlying176
 obtain⟨r,hr⟩:∃r,r=wA.heap.size:=⟨_,rfl⟩
 have HKA:Hid (Same w wA):=hka
 have HC:Hid (Ck K N w p s ρ mb):=h
 have HK0:Hid (Same w w0):=hid (Same.trans hka (Same.trans (show Same wA wA.drew from(Kept.refl _ wA).drew) ((Kept.refl _ wA.drew).grown hg0 (fun k e=>by cases e))))
 obtain⟨K0,hK0⟩:∃k,k=Maps.size (mpD kN (s.ar a)):=⟨_,rfl⟩
 have HR0:Hid (w0.ranges Tryz.prog 9 ptC a r (s.ar a).length (mpD kN (s.ar a)) (Maps.has (mpD kN (s.ar a))) K0):=hid (by rw[hK0,hr];exact hrg0)
 have HQ:Hid (r=wA.heap.size∧r<w0.heap.size∧w.heap.size≤r∧ρ a=3∧getK b s.bx=some a∧(s.ar a).length≤100000):=hid ⟨hr,by have:=hrg0.lt;rw[hr];exact this,by rw[hr];exact hka.size,ha3,hg,Nat.le_trans (h.lens.2.1 a ha3) h.big⟩
 obtain⟨fl,hfl⟩:∃f,f=s.floor:=⟨_,rfl⟩
 have HFL:Hid (fl=s.floor):=hfl
 have fW:=fieldW
 have hrg':(Instr.range 176 (.map (some a))).run Tryz.prog wA.drew=.ok (.pointer (some ⟨r,0,none⟩)) w0:=by rw[hr];exact hrg
 clear h BA hg hka ha3 hrg hrg0 hg0 hs0 hK0 hr hfl
 go_enter Tryz.func111,Tryz.ntmps111
 go_upto_region 4 with fail
 rw[←hwA,←hxb]
 clear hwA hxb
 go_region
 clear l1 p2 y0 y1 hrg'
 go_wp2_with fail
 go_loopg [7] K0 (fun q z7 wr=>∃(L:List Nm) (left:Lit→Bool) (cnt:Nat) (a0:Option Addr) (l0 c0:Nat),z7=.slice a0 l0 c0∧cnt≤q∧Hid (LiI w wr (s.ar a) a r (fun n=>isTh (vers s b n) (max t fl)) L left cnt (.slice a0 l0 c0)))
 case atStart=>
  refine⟨[],_,_,none,0,0,rfl,Nat.le_refl _,hid {rg:=HR0.out,row:=RowE.nil,same:=HK0.out,nod:=List.Pairwise.nil,mem:=fun n=>?_,len:=?_}⟩
  ·constructor
   ·intro e;cases e
   ·rintro⟨⟨c,hc⟩,hl,_⟩
    have:=has_mp klN (s.ar a) _ (getK_mem hc)
    simp only at this
    rw[this]at hl
    cases hl
  ·have h1:=HR0.out.left_eq
   simp
   exact LiLen HR0.out
 case round=>
  obtain⟨L,left,cnt,a0,l0,c0,rfl,hcnt,HI⟩:=hrel
  go_wp2_with (at_next;refine wpList_next_ranges _ rfl (.tmp 18) rfl 9 nameKey ptC (fun x:Value=>x) (fun x:Value=>x) (fun key kl _=>⟨key,rfl⟩) (fun v y _=>⟨v,rfl⟩) a r (s.ar a).length (mpD kN (s.ar a)) left cnt rfl HI.out.rg ?_ ?_)
  ·intro hc0 hl0
   have HE:Hid (∀n,n∈L↔isTh (vers s b n) (max t fl)=true):=hid (fun n=>by
    rw[HI.out.mem n]
    refine⟨fun e=>e.2.2,fun e=>⟨?_,hl0 _,e⟩⟩
    cases hn:getK n (s.ar a) with
    | some c=>exact⟨c,rfl⟩
    | none=>
     have:vers s b n=[]:=by unfold vers fndC;rw[HQ.out.2.2.2.2.1];show((getK n (s.ar a)).map s.vr).getD []=[];rw[hn];rfl
     rw[this]at e;cases e)
   have hlen:L.length≤100000:=by have:=HI.out.len;have:=HQ.out.2.2.2.2.2;omega
   have HLE:Hid (L.length≤100000):=hlen
   have HSO:=sortN_any wr w.heap.size (.slice a0 l0 c0) L HI.out.row (by omega)
   clear hc0 hl0 hlen
   go_wp2_with fail
   refine HSO.mono ?_
   rintro e w5 ⟨rfl,hr5,hk5⟩
   have HF:Hid (RowE w.heap.size 9 nmV w5 (.slice a0 l0 c0) (L.mergeSort leN)∧Same w w5):=hid ⟨hr5,Kept.trans HI.out.same hk5 (fun _ _ f=>f) (fun k hk e=>by have:=HI.out.row.ge e;omega)⟩
   clear HSO hr5 hk5
   go_wp2_with fail
   go_ret
   refine⟨_,L.mergeSort leN,rfl,HF.out.1,sortN_ris HI.out.nod,fun n=>?_,by rw[List.length_mergeSort];exact HLE.out,HF.out.2⟩
   show n∈L.mergeSort leN↔isTh (vers s b n) (max t s.floor)=true
   rw[(List.mergeSort_perm L leN).mem_iff,HE.out n,HFL.out]
  ·intro x c kl y1 y2 w2 cnt2 hkey hlx hv hat hrg2 hlt hg2 hs2 hen
   obtain⟨n,rfl,rfl⟩:=keyN_inv hkey
   obtain⟨ch,hgn,hy⟩:=mpD_has klN hat
   obtain rfl:c=.pointer (some ⟨ch,0,none⟩):=rdP.inv _ ch y2 (by rw[hv,←hy])
   have hi:=HI.out
   have hkr:Kept (·=r) wr w2:=(Kept.refl _ wr).grown hg2 (fun k e=>.inl (by simpa using e.symm))
   have hk2:Same w w2:=Kept.trans hi.same hkr (fun _ _ f=>f) (fun k hk e=>by have:=HQ.out.2.2.1;omega)
   have hrow2:RowE w.heap.size 9 nmV w2 (.slice a0 l0 c0) L:=hi.row.kept hkr (fun k e e2=>rowE_iter hi.row hi.rg k e e2)
   have hc4:=HC.out.ac a HQ.out.2.2.2.1 _ (getK_mem hgn)
   have hck:=HC.out.same hk2
   have HN:=newest_any (hck.cm ch hc4) (hck.okv ch hc4).ris (Nat.le_trans (hck.lens.2.2 ch hc4) hck.big) (max t fl)
   have hvv:vers s b n=s.vr ch:=by unfold vers fndC;rw[HQ.out.2.2.2.2.1];show((getK n (s.ar a)).map s.vr).getD []=_;rw[hgn];rfl
   rw[←hvv]at HN
   have p1:w2.cell? ⟨p,1,none⟩=some (.int .i64 fl):=by rw[HFL.out];exact hck.blk.cell 1
   obtain⟨y,hyy⟩:∃y,y=newV (vers s b n) (max t fl):=⟨_,rfl⟩
   rw[←hyy]at HN
   unfold verV at HN
   have HY:Hid (isTh (vers s b n) (max t fl)=y.there):=hid (by rw[hyy];rfl)
   have HN2:Hid (w2.ranges Tryz.prog 9 ptC a r (s.ar a).length (mpD kN (s.ar a)) (fun z=>left z && !z.sameKey (kN n)) cnt2∧cnt2<cnt∧left (kN n)=true∧getK n (s.ar a)=some ch∧Same w w2∧RowE w.heap.size 9 nmV w2 (.slice a0 l0 c0) L):=hid ⟨hrg2,hlt,hlx,hgn,hk2,hrow2⟩
   clear hkey hlx hv hat hrg2 hlt hg2 hs2 hy hgn hi hkr hk2 hrow2 hc4 hck hvv hyy
   go_wp2_with fail
   refine HN.mono ?_
   rintro e w3 ⟨rfl,hk3⟩
   have HI3:Hid (w3.ranges Tryz.prog 9 ptC a r (s.ar a).length (mpD kN (s.ar a)) (fun z=>left z && !z.sameKey (kN n)) cnt2∧Same w w3∧RowE w.heap.size 9 nmV w3 (.slice a0 l0 c0) L):=hid ⟨rangesK HN2.out.1 hk3 (fun f=>f) (fun f=>f),HN2.out.2.2.2.2.1.trans hk3,HN2.out.2.2.2.2.2.kept hk3 (fun _ _ f=>f)⟩
   have HLN:=hid (LiI.next HI.out HN2.out.2.2.2.1 HN2.out.2.2.1 HN2.out.2.1)
   clear hk3 HN p1
   obtain⟨bt,hbt⟩:∃x,x=y.there:=⟨_,rfl⟩
   rw[←hbt]at HY ⊢
   cases bt with
   | false=>
    clear hbt
    go_wp2_with fail
    go_roundg (gk-1)
    case measure=>have:=HN2.out.2.1;omega
    case rel=>exact⟨L,_,cnt2,a0,l0,c0,rfl,by have:=HN2.out.2.1;omega,hid {rg:=HI3.out.1,row:=HI3.out.2.2,same:=HI3.out.2.1,nod:=HI.out.nod,mem:=(HLN.out.2 HY.out),len:=by have:=HI.out.len;have:=HN2.out.2.1;omega}⟩
   | true=>
    clear hbt
    have HSZ:Hid (w.heap.size≤w3.heap.size∧L.length≤100000):=hid ⟨HI3.out.2.1.size,by have:=HI.out.len;have:=HQ.out.2.2.2.2.2;omega⟩
    go_wp2_with (at_builtin;refine wpList_append_e _ nmV nmV_one w.heap.size 47 9 (.string ⟨#[]⟩) 16 Tryz.underlying47 Tryz.infoStr rfl (by decide) rfl (.tmp 33) (.tmp 35) rfl (.slice a0 l0 c0) L rfl (HI3.out.2.2.kept (show Same _ _ from(Kept.refl _ _).alloc _) (fun _ _ f=>f)) ⟨w3.heap.size,0,none⟩ 1 1 [n] rfl rfl (cellsAt_new _ _ _) (by have:=HSZ.out;simp;omega) (by have:=HSZ.out;simp;omega) ?_)
    intro v5 w5 hr5 hg5
    obtain⟨a5,c5,hv5,_⟩:=hr5.shape
    subst hv5
    have hk5:Kept (fun k=>(Value.slice a0 l0 c0).ownBlock=some k) w3 w5:=Kept.trans (F:=fun _=>False) ((Kept.refl _ w3).alloc _) ((Kept.refl _ _).grown hg5 (fun k e=>.inl e)) (fun _ _ f=>False.elim f) (fun _ _ e=>e)
    have HF:Hid (LiI w w5 (s.ar a) a r (fun n=>isTh (vers s b n) (max t fl)) (L++[n]) (fun z=>left z && !z.sameKey (kN n)) cnt2 (.slice a5 (L++[n]).length c5)):=hid
     {rg:=rangesK HI3.out.1 hk5 (fun e=>rowE_map HI3.out.2.2 HI3.out.1 _ e rfl) (fun e=>rowE_iter HI3.out.2.2 HI3.out.1 _ e rfl)
      row:=hr5
      same:=Kept.trans HI3.out.2.1 hk5 (fun _ _ f=>f) (fun k hk e=>by have:=HI3.out.2.2.ge e;omega)
      nod:=(HLN.out.1 HY.out).1
      mem:=(HLN.out.1 HY.out).2
      len:=by have:=HI.out.len;have:=HN2.out.2.1;simp;omega}
    obtain⟨Ln,hLn⟩:∃x,x=(L++[n]).length:=⟨_,rfl⟩
    rw[←hLn]at HF ⊢
    clear hr5 hg5 hk5 hLn
    go_wp2_with fail
    go_roundg (gk-1)
    case measure=>have:=HN2.out.2.1;omega
    case rel=>exact⟨L++[n],_,cnt2,a5,Ln,c5,rfl,by have:=HN2.out.2.1;omega,HF⟩

theorem list_any{K N:Nat}{w:World}{p:Nat}{s:Cs}{ρ:Nat→Nat}{mb:Nat}(h:Ck K N w p s ρ mb)(b:Bx)(t:Int):
  Calls Tryz.prog 111 #[.pointer (some ⟨p,0,none⟩),.agg #[.string b.tn,.string b.ar],.int .i64 t] w fun e w'=>LisA w (fun n=>isTh (vers s b n) (max t s.floor)) e w':=by
 cases hg:getK b s.bx with
 | none=>exact list_none h b t hg
 | some a=>exact list_some h b t a hg

end Go.Proofs.YtcfociogljhbiaaGreatDoor

namespace Go.Proofs.YtcfociogljhbiaaGreatDoor
open Go.RowKit Go.Maps Go.Sort

def enE2(x:Nm×ByteArray):List Value:=[.string x.1.s,.string x.2]
theorem enE2_ok:EncOk enE2 2:=⟨fun _=>rfl,fun x u hu=>by simp[enE2]at hu;rcases hu with rfl | rfl<;>rfl,by decide⟩
theorem Tryz.infoEnt:(Tryz.prog.info? 108).map (fun i=>(i.zero,i.size,i.bytes))=some (some (.agg #[.string ⟨#[]⟩,.string ⟨#[]⟩]),2,32):=by kernel_rfl

theorem cellsAt_ent(w:World)(x:Nm×ByteArray):CellsAt (w.alloc (.cells #[.string x.1.s,.string x.2] 108)) ⟨w.heap.size,0,none⟩ ([x].flatMap enE2):=by
 intro j u hj
 match j,hj with
 | 0,hj=>simp[enE2]at hj;subst hj;simp[addAt]
 | 1,hj=>simp[enE2]at hj;subst hj;simp[addAt]
 | j+2,hj=>simp[enE2]at hj

theorem rows_apart{w:World}{B B' t t' k k' n n':Nat}{v v':Value}{l l':List Value}(h:w.ownsRow B t k v n l)(h':w.ownsRow B' t' k' v' n' l')(ht:t≠t'):∀j,v.ownBlock=some j→¬v'.ownBlock=some j:=by
 intro j e e'
 rcases h.2 with⟨rfl,_⟩ | ⟨g,cap,cur,rfl,_,hg,_⟩
 ·cases e
 ·rcases h'.2 with⟨rfl,_⟩ | ⟨g',cap',cur',rfl,_,hg',_⟩
  ·cases e'
  ·simp only[Value.ownBlock,Option.some.injEq]at e e'
   rw[e]at hg
   rw[e',hg]at hg'
   simp only[Option.some.injEq,Obj.cells.injEq]at hg'
   exact ht hg'.2.1

def EntA(w:World)(f:Nm→Bool)(g:Nm→ByteArray)(e:Ending)(w':World):Prop:=∃v L,e=.returned v∧RowC w.heap.size 108 2 enE2 w' v (L.map (fun n=>(n,g n)))∧RisN L∧(∀n,n∈L↔f n=true)∧L.length≤100000∧Same w w'

set_option maxRecDepth 100000 in
set_option maxHeartbeats 2000000 in
theorem entries_any{K N:Nat}{w:World}{p:Nat}{s:Cs}{ρ:Nat→Nat}{mb:Nat}(h:Ck K N w p s ρ mb)(b:Bx)(t:Int):
  Calls Tryz.prog 100 #[.pointer (some ⟨p,0,none⟩),.agg #[.string b.tn,.string b.ar],.int .i64 t] w fun e w'=>EntA w (fun n=>isTh (vers s b n) (max t s.floor)) (fun n=>(newV (vers s b n) (max t s.floor)).data) e w':=by
 obtain⟨wA,hwA⟩:∃W,W=w.alloc (.cells #[.string b.tn,.string b.ar] 128):=⟨_,rfl⟩
 have hka:Same w wA:=by rw[hwA];exact(Kept.refl _ w).alloc _
 obtain⟨xb,hxb⟩:∃x,x=w.heap.size:=⟨_,rfl⟩
 have BA:Hid (Blk wA xb #[.string b.tn,.string b.ar] 128):=hid (by rw[hwA,hxb];exact Blk.new w _ _)
 have HKA:Hid (Same w wA):=hka
 have HC:Hid (Ck K N w p s ρ mb):=h
 have HL:=list_any (h.same hka) b t
 have y0:=BA.out.cell 0
 have y1:=BA.out.cell 1
 simp at y0 y1
 obtain⟨g,hg⟩:∃g:Nm→ByteArray,g=fun n=>(newV (vers s b n) (max t s.floor)).data:=⟨_,rfl⟩
 rw[←hg]
 have HG:Hid (∀n,∃th,getA (vers s b n) (max t s.floor)=.tuple #[.string (g n),.bool th]):=hid (fun n=>by rw[hg];exact⟨_,rfl⟩)
 clear h hka hg
 go_enter Tryz.func100,Tryz.ntmps100
 go_upto_region 2 with fail
 rw[←hwA,←hxb]
 clear hwA hxb
 go_wp2_with fail
 refine HL.mono ?_
 rintro e w1 ⟨v,L,rfl,hrow,hris,hmem,hlen,hk1⟩
 clear HL y0 y1
 obtain⟨na,nc,hv,hne,_⟩:=hrow.shape
 obtain⟨Ln,hLn⟩:∃x,x=L.length:=⟨_,rfl⟩
 rw[←hLn]at hv
 subst hv
 have HR:Hid (RowE wA.heap.size 9 nmV w1 (.slice na Ln nc) L∧RisN L∧(∀n,n∈L↔isTh (vers s b n) (max t s.floor)=true)∧L.length≤100000∧Same w w1∧Ln=L.length∧(L≠[]→∃g,na=some ⟨g,0,none⟩)∧Blk w1 xb #[.string b.tn,.string b.ar] 128∧xb<wA.heap.size):=hid ⟨hrow,hris,hmem,hlen,HKA.out.trans hk1,hLn,hne,BA.out.kept hk1 (fun f=>f),BA.out.lt⟩
 have hLl:Ln≤100000:=by omega
 clear hrow hris hmem hlen hk1 hne hLn
 go_wp2_with fail
 go_loopg [7,17] Ln (fun q z7 z17 wr=>∃(i:Nat) (a0:Option Addr) (l0 c0:Nat),z7=.slice a0 l0 c0∧z17=.int .i64 (i:Nat)∧Ln-i≤q∧i≤Ln∧Hid (RowC w1.heap.size 108 2 enE2 wr (.slice a0 l0 c0) ((L.take i).map (fun n=>(n,g n)))∧Same w1 wr))
 case atStart=>exact⟨0,none,0,0,rfl,rfl,by omega,by omega,hid ⟨by simpa using RowC.nil,Kept.refl _ _⟩⟩
 case round=>
  obtain⟨i,a0,l0,c0,rfl,rfl,hq,hi,HI⟩:=hrel
  by_cases hlt:i<Ln
  ·have hr:=HR.out
   have hil:i<L.length:=by have:=hr.2.2.2.2.2.1;omega
   obtain⟨gn,rfl⟩:=hr.2.2.2.2.2.2.1 (by intro e;rw[e]at hil;simp at hil)
   have hrown:=hr.1.kept HI.out.2 (fun _ _ f=>f)
   have hc:=RowE.cell (hrown) i hil
   obtain⟨n,hn⟩:∃n,n=L[i]:=⟨_,rfl⟩
   rw[←hn]at hc
   have hc':wr.cell? ⟨gn,i,none⟩=some (.string n.s):=hc
   have hbx:=hr.2.2.2.2.2.2.2.1.kept HI.out.2 (fun f=>f)
   have y0:=hbx.cell 0
   have y1:=hbx.cell 1
   simp at y0 y1
   have hkw:Same w wr:=hr.2.2.2.2.1.trans HI.out.2
   have HGE:=cget_any (HC.out.same hkw) b n t
   obtain⟨th,hth⟩:=HG.out n
   rw[hth]at HGE
   obtain⟨E,hE⟩:∃E,E=(L.take i).map (fun n=>(n,g n)):=⟨_,rfl⟩
   have HN:Hid ((L.take (i+1)).map (fun n=>(n,g n))=E++[(n,g n)]∧E.length≤100000):=hid ⟨by rw[List.take_succ_eq_append_getElem hil,List.map_append,hn,hE];rfl,by rw[hE,List.length_map,List.length_take];have:=hr.2.2.2.1;omega⟩
   rw[←hE]at HI
   have hli:(i:Int)<(Ln:Int):=by omega
   clear hE
   clear hr hil hrown hc hn hbx hkw hth
   go_wp2_with fail
   refine HGE.mono ?_
   rintro e w2 ⟨rfl,hk2⟩
   have HI2:Hid (RowC w1.heap.size 108 2 enE2 w2 (.slice a0 l0 c0) E∧Same w1 w2):=hid ⟨HI.out.1.kept hk2 (fun _ _ f=>f),HI.out.2.trans hk2⟩
   clear hk2 HGE y0 y1 hc'
   go_wp2_with (at_builtin;refine wpList_append_c _ enE2 2 enE2_ok (by decide) w1.heap.size 81 108 (.agg #[.string ⟨#[]⟩,.string ⟨#[]⟩]) 32 Tryz.underlying81 Tryz.infoEnt rfl (by decide) rfl (.tmp 33) (.tmp 37) rfl (.slice a0 l0 c0) E rfl (HI2.out.1.kept (show Same _ _ from(Kept.refl _ _).alloc _) (fun _ _ f=>f)) ⟨w2.heap.size,0,none⟩ 1 1 [(n,g n)] rfl rfl (cellsAt_ent _ (n,g n)) (by have:=HN.out.2;simp;omega) (by have:=HI2.out.2.size;simp;omega) ?_)
   intro v5 w5 hr5 hg5
   obtain⟨a5,c5,hv5,_⟩:=hr5.shape
   subst hv5
   have hk5:Kept (fun k=>(Value.slice a0 l0 c0).ownBlock=some k) w2 w5:=Kept.trans (F:=fun _=>False) ((Kept.refl _ w2).alloc _) ((Kept.refl _ _).grown hg5 (fun k e=>.inl e)) (fun _ _ f=>False.elim f) (fun _ _ e=>e)
   have HF:Hid (RowC w1.heap.size 108 2 enE2 w5 (.slice a5 (E++[(n,g n)]).length c5) ((L.take (i+1)).map (fun n=>(n,g n)))∧Same w1 w5):=hid ⟨by rw[HN.out.1];exact hr5,Kept.trans HI2.out.2 hk5 (fun _ _ f=>f) (fun k hk e=>by have:=HI2.out.1.ge e;omega)⟩
   obtain⟨l5,hl5⟩:∃x,x=(E++[(n,g n)]).length:=⟨_,rfl⟩
   rw[←hl5]at HF ⊢
   clear hr5 hg5 hk5 hl5
   go_wp2_with fail
   go_roundg (gk-1)
   case measure=>omega
   case rel=>exact⟨i+1,a5,l5,c5,rfl,by go_num,by omega,by omega,HF⟩
  ·have e:i=Ln:=by omega
   have HF:Hid (EntA w (fun n=>isTh (vers s b n) (max t s.floor)) g (.returned (.slice a0 l0 c0)) wr):=hid (by
    have hr:=HR.out
    have hi2:=HI.out
    rw[e,hr.2.2.2.2.2.1,List.take_length]at hi2
    exact⟨_,L,rfl,hi2.1.base hr.2.2.2.2.1.size,hr.2.1,hr.2.2.1,hr.2.2.2.1,hr.2.2.2.2.1.trans hi2.2⟩)
   go_wp2_with fail
   go_ret
   exact HF.out

end Go.Proofs.YtcfociogljhbiaaGreatDoor
