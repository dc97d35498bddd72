/-
  Of the proof: parts ChF, ChI, ChL, ChJ.
-/
import Derived.Deep.RegionLaw
import Derived.Maps.AppendAt
import Derived.Test.YtcfociogljhbiaaGreatDoorJ13
import Derived.Test.YtcfociogljhbiaaGreatDoorJ14

namespace Go.Proofs.YtcfociogljhbiaaGreatDoor
open Go.RowKit Go.Maps Go.Sort

theorem Tryz.infoVer:(Tryz.prog.info? 147).map (fun i=>(i.zero,i.size,i.bytes))=some (some (.agg #[.int .i64 0,.bool false,.string ⟨#[]⟩]),3,32):=by kernel_rfl

theorem RowC.cut{α:Type}{B:Nat}{t k:Nat}{enc:α→List Value}(ok:EncOk enc k){w:World}{g n cap:Nat}{xs ys:List α}(h:RowC B t k enc w (.slice (some ⟨g,0,none⟩) n cap) (xs++ys)):RowC B t k enc w (.slice (some ⟨g,0,none⟩) xs.length cap) xs:=by
 rcases h.2 with⟨h',_⟩ | ⟨g',cap',cur,h',hb,hgg,hnc,hcm,hcs,htake⟩
 ·simp at h'
 ·simp only[Value.slice.injEq,Option.some.injEq,Addr.mk.injEq,and_true]at h'
  obtain⟨rfl,rfl,rfl⟩:=h'
  refine⟨by rw[flat_length ok],.inr ⟨g,cap,cur,rfl,hb,hgg,?_,hcm,hcs,?_⟩⟩
  ·simp at hnc;omega
  ·rw[List.length_append]at htake
   have e:List.take (xs.length*k) cur.toList=List.take (xs.length*k) (List.take ((xs.length+ys.length)*k) cur.toList):=by
    rw[List.take_take]
    congr 1
    rw[Nat.add_mul]
    omega
   rw[e,htake,List.flatMap_append,List.take_append,flat_length ok,Nat.sub_self,List.take_zero,List.append_nil,List.take_of_length_le (by rw[flat_length ok];exact Nat.le_refl _)]

theorem cellsAt_ver(w:World)(v:Ver):CellsAt (w.alloc (.cells #[.int .i64 v.t,.bool v.there,.string v.data] 147)) ⟨w.heap.size,0,none⟩ ([v].flatMap verE):=by
 intro j u hj
 match j,hj with
 | 0,hj=>simp[verE]at hj;subst hj;simp[addAt]
 | 1,hj=>simp[verE]at hj;subst hj;simp[addAt]
 | 2,hj=>simp[verE]at hj;subst hj;simp[addAt]
 | j+3,hj=>simp[verE]at hj

theorem cellsAt_same{w w':World}(hk:Same w w'){a:Addr}{cs:List Value}(h:CellsAt w a cs):CellsAt w' a cs:=fun j u hj=>hk.cell (h j u hj) (fun f=>f)

set_option maxRecDepth 100000 in
set_option maxHeartbeats 2000000 in
theorem put_raw{N:Nat}{w:World}{ρ:Nat→Nat}{c:Nat}{l:List Ver}(h:ChAt N w ρ c l)(hr:RisV l)(hl:l.length≤100000)(hN:N≤w.heap.size)(hc:c<w.heap.size)(hcc:ρ c≠10+c)(v:Ver)(hv1:1≤v.t)(hv2:v.t≤9223372036854775807):
  Calls Tryz.prog 78 #[.pointer (some ⟨c,0,none⟩),.agg #[.int .i64 v.t,.bool v.there,.string v.data]] w fun e w'=>e=.returned (.tuple #[])∧ChB N w w' ρ c (putV l v):=by
 obtain⟨wA,hwA⟩:∃W,W=w.alloc (.cells #[.int .i64 v.t,.bool v.there,.string v.data] 147):=⟨_,rfl⟩
 have hka:Same w wA:=by rw[hwA];exact(Kept.refl _ w).alloc _
 obtain⟨xb,hxb⟩:∃x,x=w.heap.size:=⟨_,rfl⟩
 have BA:Blk wA xb #[.int .i64 v.t,.bool v.there,.string v.data] 147:=by rw[hwA,hxb];exact Blk.new w _ _
 have HA:Hid (ChAt N wA ρ c l):=hid (h.same hka)
 have HKA:Hid (Same w wA):=hka
 obtain⟨vt,there,data⟩:=v
 obtain⟨n,hn⟩:∃n,n=upV l (vt-1):=⟨_,rfl⟩
 have hle:=upV_le l (vt-1)
 have HU:Hid (∀w',Same wA w'→Calls Tryz.prog 121 #[.pointer (some ⟨c,0,none⟩),.int .i64 (vt-1)] w' fun e w2=>e=.returned (.int .i64 (n:Nat))∧Same w' w2):=hid (fun w' hk=>by rw[hn];exact upTo_any (HA.out.same hk) hr hl (vt-1))
 have qw:IntKind.i64.wrap (vt-1)=vt-1:=by rw[IntKind.wrap_i64];simp only at hv1 hv2;omega
 obtain⟨u,hb,hrow,hown⟩:=HA.out
 obtain⟨ao,cap,hv,hg,hao,hcap,hmx⟩:=hrow.shape
 have hcut:l.take n=l.filter (fun x=>decide (x.t≤vt-1)):=by rw[hn];exact upV_take hr _
 rw[←hn]at hle
 obtain⟨L,hL⟩:∃L,L=l.length:=⟨_,rfl⟩
 have HP:Hid (putV l ⟨vt,there,data⟩=l.take n++[⟨vt,there,data⟩]):=hid (by rw[hcut];rfl)
 have hbl:Hid (Blk wA c #[.slice ao L cap] 202):=hid (by rw[hL,←hv];exact hb)
 have HR1:Hid (∀w',Same wA w'→RowC N 147 3 verE w' (.slice ao n cap) (l.take n)):=hid (fun w' hk=>by
  have h1:=hrow.kept hk (fun _ _ f=>f)
  rw[hv]at h1
  cases ao with
  | none=>
   have e1 : l = [] := by by_cases e:l=[];· exact e
                          ·obtain⟨g,e2⟩:=hg e;cases e2
   have e2:n=0:=by rw[e1]at hle;simpa using hle
   have e3:cap=0:=hao rfl
   rw[e1,e2,e3]
   exact RowC.nil
  | some ad=>
   have h2:=h1
   rcases h2.2 with⟨h',_⟩ | ⟨g',cap',cur,h',_⟩
   ·simp at h'
   ·simp only[Value.slice.injEq,Option.some.injEq]at h'
    obtain⟨rfl,_,_⟩:=h'
    have h3:RowC N 147 3 verE w' (.slice (some ⟨g',0,none⟩) l.length cap) (l.take n++l.drop n):=by rw[List.take_append_drop];exact h1
    have h4:=RowC.cut verE_ok h3
    rw[List.length_take,Nat.min_eq_left hle]at h4
    exact h4)
 have a0:=BA.cell 0
 have a1:=BA.cell 1
 have a2:=BA.cell 2
 have d0:=hbl.out.cell 0
 have z0:=hbl.out.frozen 0
 simp at a0 a1 a2 d0
 have HQ:Hid (N≤w.heap.size∧c<w.heap.size∧l.length≤100000∧ρ c≠10+c∧xb=w.heap.size):=hid ⟨hN,hc,hl,hcc,hxb⟩
 have HO:Hid (∀k,(Value.slice ao n cap).ownBlock=some k→ρ k=10+c):=hid (fun k e=>hown k (by rw[hv];cases ao with | none=>exact e | some a=>exact e))
 have HLT:Hid ((l.take n).length=n):=hid (by rw[List.length_take];omega)
 have nL:n≤L:=by omega
 have nc:n≤cap:=by omega
 have ni:(n:Int)≤(cap:Int):=by omega
 have hmx2:cap≤maxLen:=hmx
 unfold ChB
 rw[HP.out]
 clear h hr hl hN hc hcc hv1 hv2 hb hrow hown hv hg hao hcap hmx hcut hle hL hn BA hka HP hmx2
 go_enter Tryz.func78,Tryz.ntmps78
 go_wp2_with fail
 rw[←hwA,←hxb]
 clear hwA hxb
 have hs0:Same wA wA:=Kept.refl _ _
 have hsA:Same wA (wA.alloc (.cells #[.int .i64 vt,.bool there,.string data] 147)):=(Kept.refl _ _).alloc _
 have a0a:=hsA.cell a0 (fun f=>f)
 have a1a:=hsA.cell a1 (fun f=>f)
 have a2a:=hsA.cell a2 (fun f=>f)
 have d0a:=hsA.cell d0 (fun f=>f)
 clear hsA
 go_region_law (first
  | (refine step_callC (by rfl) 121 #[.pointer (some ⟨c,0,none⟩),.int .i64 (vt-1)] (by simp[go_sem]) _ (HU.out _ (by first | exact hs0 | exact hs0.drew | exact hs0.alloc _ | exact(hs0.drew).alloc _ | exact(hs0.alloc _).drew)) ?_;rintro e w2 ⟨rfl,hk2⟩;have hk2a:Same wA w2:=Same.trans (by first | exact hs0 | exact hs0.drew | exact hs0.alloc _ | exact(hs0.drew).alloc _ | exact(hs0.alloc _).drew) hk2;have a0:=hk2a.cell a0 (fun f=>f);have a1:=hk2a.cell a1 (fun f=>f);have a2:=hk2a.cell a2 (fun f=>f);have d0:=hk2a.cell d0 (fun f=>f);have d0b:=(show Same w2 (w2.alloc (.cells #[.int .i64 vt,.bool there,.string data] 147)) from(Kept.refl _ _).alloc _).cell d0 (fun f=>f);refine⟨_,rfl,?_⟩)
  | (refine step_appendC verE 3 verE_ok N 200 147 (.agg #[.int .i64 0,.bool false,.string ⟨#[]⟩]) 32 Tryz.underlying200 Tryz.infoVer rfl (by decide) (by rfl) (.tmp 14) (.tmp 16) (by rfl) (.slice ao n cap) (l.take n) (by rfl) (HR1.out _ (by first | exact hk2a | exact hk2a.alloc _)) _ 1 1 [⟨vt,there,data⟩] (by rfl) (by rfl) (by first | exact cellsAt_ver _ ⟨vt,there,data⟩ | exact cellsAt_same hk2 (cellsAt_ver _ ⟨vt,there,data⟩)) (by have:=HQ.out;have:=HLT.out;simp;omega) (by have:=HQ.out;have:=HKA.out.size;have:=hk2a.size;simp;omega) ?_;intro v5 w5 hr5 hg5 hb5;have hk5:Kept (fun k=>(Value.slice ao n cap).ownBlock=some k) wA w5:=Kept.trans (F:=fun _=>False) (by first | exact hk2a | exact hk2a.alloc _) ((Kept.refl _ _).grown hg5 (fun k e=>.inl e)) (fun _ _ f=>False.elim f) (fun _ _ e=>e);have hb5:∀j,v5.ownBlock=some j→(Value.slice ao n cap).ownBlock=some j∨w.heap.size≤j:=(fun j e=>(hb5 j e).imp id (fun h=>by have:=HKA.out.size;have:=hk2a.size;(try simp at h);omega));have z5:=(hbl.out.kept hk5 (fun e=>HQ.out.2.2.2.1 (HO.out c e))).frozen 0;have d5:=(hbl.out.kept hk5 (fun e=>HQ.out.2.2.2.1 (HO.out c e))).cell 0;simp at d5;obtain⟨a5,n5,q5,e5⟩:∃a n q,v5=Value.slice a n q:=(by obtain⟨a,q,e,_⟩:=hr5.shape;exact⟨a,_,q,e⟩);subst e5;clear hg5))
 all_goals
  have HF:Hid (RowC N 147 3 verE w5 (.slice a5 n5 q5) (l.take n++[⟨vt,there,data⟩])∧Kept (fun k=>(Value.slice ao n cap).ownBlock=some k) wA w5∧∀j,(Value.slice a5 n5 q5).ownBlock=some j→(Value.slice ao n cap).ownBlock=some j∨w.heap.size≤j):=hid ⟨hr5,hk5,hb5⟩
  clear hr5 hk5 hb5
  as_aux_lemma=>
  go_wp2_with fail
  go_end0
  have hcn:¬(Value.slice ao n cap).ownBlock=some c:=fun e=>HQ.out.2.2.2.1 (HO.out c e)
  refine⟨rfl,.slice a5 n5 q5,?_,?_,fun k e=>(HF.out.2.2 k e).imp (HO.out k) id,?_⟩
  ·have h9:=(hbl.out.kept HF.out.2.1 hcn).set 0 (.slice a5 n5 q5)
   simpa using h9
  ·refine HF.out.1.kept (F:=(·=c)) ((Kept.refl _ _).setCell _ _ (.inl rfl)) (fun j e e2=>?_)
   subst e2
   rcases HF.out.2.2 j e with h | h
   ·exact hcn h
   ·have:=HQ.out;omega
  ·have h1:Kept (fun k=>k=c∨ρ k=10+c) w w5:=Kept.trans HKA.out HF.out.2.1 (fun _ _ f=>f.elim) (fun k _ e=>.inr (HO.out k e))
   exact h1.setCell _ _ (.inl (.inl rfl))

end Go.Proofs.YtcfociogljhbiaaGreatDoor

namespace Go.Proofs.YtcfociogljhbiaaGreatDoor
open Go.RowKit Go.Maps Go.Sort

def verOf(x:Wr)(t:Int):Ver:=if x.there then⟨t,true,x.data⟩ else⟨t,false,⟨#[]⟩⟩

theorem verOf_t(x:Wr)(t:Int):(verOf x t).t=t:=by unfold verOf;split<;>rfl

abbrev Vs:=Bx→Nm→List Ver

def putF(f:Vs)(x:Wr)(t:Int):Vs:=fun b n=>if b=x.b∧n=x.n then putV (f b n) (verOf x t)else f b n
def putsF(f:Vs)(ws:List Wr)(t:Int):Vs:=ws.foldl (fun f x=>putF f x t) f

set_option maxHeartbeats 400000 in
theorem versionOf_any(w:World)(x:Wr)(t:Int):
  Calls Tryz.prog 79 #[.agg #[.string x.b.tn,.string x.b.ar,.string x.n.s,.bool x.there,.string x.data],.int .i64 t] w fun e w'=>e=.returned (.agg #[.int .i64 (verOf x t).t,.bool (verOf x t).there,.string (verOf x t).data])∧Same w w':=by
 obtain⟨b,n,there,data,_⟩:=x
 cases there with
 | true=>
  go_enter Tryz.func79,Tryz.ntmps79
  go_wp2_with fail
  refine bodyPost_ret (v:=.agg #[.int .i64 t,.bool true,.string data]) (by rw[results_cellC rfl];simp[go_sem]) rfl ?_
  exact⟨rfl,((Kept.refl _ w).alloc _).alloc _⟩
 | false=>
  go_enter Tryz.func79,Tryz.ntmps79
  go_wp2_with fail
  refine bodyPost_ret (v:=.agg #[.int .i64 t,.bool false,.string ⟨#[]⟩]) (by rw[results_cellC rfl];simp[go_sem]) rfl ?_
  exact⟨rfl,((Kept.refl _ w).alloc _).alloc _⟩

section
variable {K N:Nat} {w:World} {p:Nat} {s:Cs} {ρ:Nat→Nat} {mb:Nat}

theorem VerOk.put{now:Int}{l:List Ver}(h:VerOk now l){v:Ver}(h1:1≤v.t)(h2:v.t≤now)(h3:v.there=false→v.data=⟨#[]⟩)(h4:v.data.size≤maxLen):VerOk now (putV l v):=
 ⟨putV_ris h.ris v,fun x hx=>by
  rcases putV_mem hx with rfl | h5
  ·exact⟨h1,h2⟩
  ·exact h.low x h5.1,fun x hx=>by
  rcases putV_mem hx with rfl | h5
  ·exact h3
  ·exact h.gone x h5.1,fun x hx=>by
  rcases putV_mem hx with rfl | h5
  ·exact h4
  ·exact h.big x h5.1⟩

theorem put_any(h:Ck K N w p s ρ mb)(hN:N≤w.heap.size)(hK:K+1≤100000){b:Bx}{n:Nm}{c:Nat}(hf:fndC s b n=some c)(v:Ver)(h1:1≤v.t)(h2:v.t≤s.now)(h3:v.there=false→v.data=⟨#[]⟩)(h4:v.data.size≤maxLen):
  Calls Tryz.prog 78 #[.pointer (some ⟨c,0,none⟩),.agg #[.int .i64 v.t,.bool v.there,.string v.data]] w fun e w'=>e=.returned (.tuple #[])∧∃s' ρ',Ck (K+1) N w' p s' ρ' mb∧(∀b' n',vers s' b' n'=if b'=b∧n'=n then putV (vers s b n) v else vers s b' n')∧s'.now=s.now∧s'.floor=s.floor∧ExtC w ρ ρ'∧Kept (fun k=>ρ k≠0) w w':=by
 have hc:=h.fnd hf
 have hv:vers s b n=s.vr c:=by unfold vers;rw[hf];rfl
 have hl:=h.lens.2.2 c hc
 have hb:=h.big
 refine(put_raw (h.cm c hc) (h.okv c hc).ris (by omega) hN (h.new c (by rw[hc];decide)).2 (by rw[hc];omega) v h1 (by have:=h.nums;omega)).mono ?_
 rintro e w' ⟨rfl,hB⟩
 refine⟨rfl,?_⟩
 have hlen:=putV_len (s.vr c) v
 obtain⟨ρ',hC,hE,hk⟩:=(h.more (Nat.le_succ K) hK).setChain hc hB ((h.okv c hc).put h1 h2 h3 h4) (by omega)
 refine⟨_,ρ',hC,fun b' n'=>?_,rfl,rfl,hE,hk⟩
 rw[vers_set h hf,hv]

theorem Ck.setNow(h:Ck K N w p s ρ mb){t:Int}(ht:s.now≤t)(ht2:t≤9223372036854775807){w':World}(hb:Blk w' p #[.int .i64 t,.int .i64 s.floor,.map (some mb)] 142)(hk:Kept (·=p) w w'):Ck K N w' p {s with now:=t} ρ mb:=by
 have hne:∀k,ρ k≠1→¬k=p:=fun k e e2=>e (by rw[e2];exact h.rp)
 refine {h with blk:=hb,bm:=h.bm.kept hk (hne mb (by rw[h.rm];decide)),am:=fun a ha=>(h.am a ha).kept hk (hne a (by rw[ha];decide)),cm:=fun c hc=>?_,okv:=fun c hc=>⟨(h.okv c hc).ris,fun v hv=>⟨((h.okv c hc).low v hv).1,Int.le_trans ((h.okv c hc).low v hv).2 ht⟩,(h.okv c hc).gone,(h.okv c hc).big⟩,new:=fun k hk2=>⟨(h.new k hk2).1,Nat.lt_of_lt_of_le (h.new k hk2).2 hk.size⟩,nums:=⟨h.nums.1,Int.le_trans h.nums.2.1 ht,ht2⟩}
 obtain⟨v,h1,h2,h3⟩:=h.cm c hc
 exact⟨v,h1.kept hk (hne c (by rw[hc];decide)),h2.kept hk (fun k e=>hne k (by rw[h3 k e];omega)),h3⟩

end
def PuA(K N:Nat)(w:World)(p:Nat)(s:Cs)(ρ:Nat→Nat)(mb:Nat)(t:Int)(ws:List Wr)(w':World):Prop:=
 ∃s' ρ',Ck (K+3*ws.length) N w' p s' ρ' mb∧vers s'=putsF (vers s) ws t∧s'.now=t∧s'.floor=s.floor∧ExtC w ρ ρ'∧Kept (fun k=>ρ k≠0) w w'

end Go.Proofs.YtcfociogljhbiaaGreatDoor

namespace Go.Proofs.YtcfociogljhbiaaGreatDoor
open Go.RowKit Go.Maps Go.Sort

abbrev Ky:=Bx×Nm

def TotIs(V:Vs)(n:Nat):Prop:=∃ks:List Ky,ks.Nodup∧(∀b m,V b m≠[]→(b,m)∈ks)∧n=(ks.map (fun k=>(V k.1 k.2).length)).sum

theorem sum_filter{α:Type}(f:α→Nat)(l:List α):((l.filter (fun x=>f x != 0)).map f).sum=(l.map f).sum:=by
 induction l with
 | nil=>rfl
 | cons a r ih=>
  rw[List.filter_cons]
  by_cases h:f a=0
  ·rw[if_neg (by simp[h]),ih,List.map_cons,List.sum_cons,h,Nat.zero_add]
  ·rw[if_pos (by simp[h]),List.map_cons,List.sum_cons,List.map_cons,List.sum_cons,ih]

theorem TotIs.det{V:Vs}{n m:Nat}(h:TotIs V n)(h':TotIs V m):n=m:=by
 obtain⟨ks,h1,h2,rfl⟩:=h
 obtain⟨ls,g1,g2,rfl⟩:=h'
 rw[←sum_filter,←sum_filter (fun k:Ky=>(V k.1 k.2).length) ls]
 have hne:∀k:Ky,((V k.1 k.2).length != 0)=true↔V k.1 k.2≠[]:=fun k=>by simp
 have hp:(ks.filter (fun k=>(V k.1 k.2).length != 0)).Perm (ls.filter (fun k=>(V k.1 k.2).length != 0)):=by
  rw[List.perm_ext_iff_of_nodup (h1.filter _) (g1.filter _)]
  intro k
  rw[List.mem_filter,List.mem_filter,hne]
  exact⟨fun e=>⟨g2 _ _ e.2,e.2⟩,fun e=>⟨h2 _ _ e.2,e.2⟩⟩
 exact(hp.map _).sum_nat

theorem sum_upd{α:Type}[DecidableEq α](f g:α→Nat)(a:α)(hg:∀x,x≠a→g x=f x):∀l:List α,l.Nodup→a∈l→(l.map g).sum+f a=(l.map f).sum+g a
 | [],_,h=>by cases h
 | x::r,hn,h=>by
  rw[List.nodup_cons]at hn
  rw[List.map_cons,List.sum_cons,List.map_cons,List.sum_cons]
  by_cases e:x=a
  ·subst e
   have:r.map g=r.map f:=List.map_congr_left (fun y hy=>hg y (fun e2=>hn.1 (by rw[←e2];exact hy)))
   rw[this]
   omega
  ·have:=sum_upd f g a hg r hn.2 (by rcases List.mem_cons.1 h with h | h;exact absurd h.symm e;exact h)
   rw[hg x e]
   omega

theorem TotIs.upd{V V':Vs}{n:Nat}(h:TotIs V n)(b:Bx)(m:Nm)(l':List Ver)(hV:∀b' m',V' b' m'=if b'=b∧m'=m then l' else V b' m'):∃n',TotIs V' n'∧n'+(V b m).length=n+l'.length:=by
 obtain⟨ks,h1,h2,rfl⟩:=h
 have hg:∀k:Ky,k≠(b,m)→(V' k.1 k.2).length=(V k.1 k.2).length:=fun k e=>by
  rw[hV,if_neg (fun e2=>e (Prod.ext e2.1 e2.2))]
 have hl:V' b m=l':=by rw[hV,if_pos ⟨rfl,rfl⟩]
 have hcov:∀(qs:List Ky),(∀k∈ks,k∈qs)→(b,m)∈qs→∀b' m',V' b' m'≠[]→(b',m')∈qs:=fun qs hq hb b' m' e=>by
  by_cases e2:b'=b∧m'=m
  ·rw[e2.1,e2.2];exact hb
  ·rw[hV,if_neg e2]at e;exact hq _ (h2 _ _ e)
 by_cases hb:(b,m)∈ks
 ·refine⟨_,⟨ks,h1,hcov ks (fun _ h=>h) hb,rfl⟩,?_⟩
  have:=sum_upd (fun k:Ky=>(V k.1 k.2).length) (fun k:Ky=>(V' k.1 k.2).length) (b,m) hg ks h1 hb
  simp only[hl]at this
  exact this
 ·have h0:V b m=[]:=by
   by_cases e:V b m=[]
   ·exact e
   ·exact absurd (h2 b m e) hb
  refine⟨_,⟨(b,m)::ks,List.nodup_cons.2 ⟨hb,h1⟩,hcov _ (fun _ h=>List.mem_cons_of_mem _ h) (List.mem_cons_self ..),rfl⟩,?_⟩
  have e:ks.map (fun k:Ky=>(V' k.1 k.2).length)=ks.map (fun k:Ky=>(V k.1 k.2).length):=List.map_congr_left (fun k hk=>hg k (fun e=>hb (by rw[←e];exact hk)))
  rw[List.map_cons,List.sum_cons,e,h0,hl]
  simp
  omega

theorem TotIs.same{V V':Vs}{n:Nat}(h:TotIs V n)(hV:∀b m,V' b m=V b m):TotIs V' n:=by
 have:V'=V:=by funext b m;exact hV b m
 rw[this];exact h

def keysC(s:Cs):List Ky:=s.bx.flatMap (fun x=>(s.ar x.2).map (fun y=>(x.1,y.1)))

def sizA(s:Cs)(a:Nat):Nat:=((s.ar a).map (fun y=>(s.vr y.2).length)).sum

theorem sum_flatMap{α β:Type}(f:β→Nat)(g:α→List β)(l:List α):((l.flatMap g).map f).sum=(l.map (fun x=>((g x).map f).sum)).sum:=by
 induction l with
 | nil=>rfl
 | cons a r ih=>rw[List.flatMap_cons,List.map_append,List.sum_append,ih,List.map_cons,List.sum_cons]

theorem sum_bound{α:Type}(f:α→Nat)(B:Nat):∀l:List α,(∀x∈l,f x≤B)→(l.map f).sum≤l.length*B
 | [],_=>by simp
 | a::r,h=>by
  rw[List.map_cons,List.sum_cons,List.length_cons,Nat.succ_mul]
  have:=sum_bound f B r (fun x hx=>h x (List.mem_cons_of_mem _ hx))
  have:=h a (List.mem_cons_self ..)
  omega

section
variable {K N:Nat} {w:World} {p:Nat} {s:Cs} {ρ:Nat→Nat} {mb:Nat}

theorem vers_at(h:Ck K N w p s ρ mb){x:Bx×Nat}(hx:x∈s.bx){y:Nm×Nat}(hy:y∈s.ar x.2):vers s x.1 y.1=s.vr y.2:=by
 have h1:getK x.1 s.bx=some x.2:=getK_of_mem h.apb hx
 have h2:getK y.1 (s.ar x.2)=some y.2:=getK_of_mem (h.apa (h.ba x hx)) hy
 unfold vers fndC
 rw[h1]
 show((getK y.1 (s.ar x.2)).map s.vr).getD []=_
 rw[h2]
 rfl

theorem keysC_nodup(h:Ck K N w p s ρ mb):(keysC s).Nodup:=by
 unfold keysC List.Nodup
 rw[List.pairwise_flatMap]
 refine⟨fun x hx=>?_,?_⟩
 ·have:=h.apa (h.ba x hx)
  rw[List.pairwise_map]
  exact this.imp (fun h e=>h (by simpa using e))
 ·refine h.apb.imp (fun {x y} hxy=>?_)
  intro k hk k' hk' e
  rw[List.mem_map]at hk hk'
  obtain⟨_,_,rfl⟩:=hk
  obtain⟨_,_,rfl⟩:=hk'
  exact hxy (by simp at e;exact e.1)

theorem Ck.tot(h:Ck K N w p s ρ mb):TotIs (vers s) ((s.bx.map (fun x=>sizA s x.2)).sum):=by
 refine⟨keysC s,keysC_nodup h,fun b n e=>?_,?_⟩
 ·unfold keysC
  rw[List.mem_flatMap]
  unfold vers fndC at e
  cases hg:getK b s.bx with
  | none=>rw[hg]at e;exact absurd rfl e
  | some a=>
   rw[hg]at e
   change ((getK n (s.ar a)).map s.vr).getD []≠[]at e
   cases hn:getK n (s.ar a) with
   | none=>rw[hn]at e;exact absurd rfl e
   | some c=>exact⟨(b,a),getK_mem hg,List.mem_map.2 ⟨(n,c),getK_mem hn,rfl⟩⟩
 ·unfold keysC
  rw[sum_flatMap]
  congr 1
  refine List.map_congr_left (fun x hx=>?_)
  unfold sizA
  rw[List.map_map]
  congr 1
  refine List.map_congr_left (fun y hy=>?_)
  show(s.vr y.2).length=(vers s x.1 y.1).length
  rw[vers_at h hx hy]

theorem sizA_le(h:Ck K N w p s ρ mb){a:Nat}(ha:ρ a=3):sizA s a≤10000000000:=by
 unfold sizA
 have h1:=sum_bound (fun y:Nm×Nat=>(s.vr y.2).length) 100000 (s.ar a) (fun y hy=>Nat.le_trans (h.lens.2.2 y.2 (h.ac a ha y hy)) h.big)
 have h2:=h.lens.2.1 a ha
 have h3:=h.big
 have h4:(s.ar a).length*100000≤100000*100000:=Nat.mul_le_mul_right _ (by omega)
 omega

theorem tot_le(h:Ck K N w p s ρ mb):(s.bx.map (fun x=>sizA s x.2)).sum≤1000000000000000:=by
 have h1:=sum_bound (fun x:Bx×Nat=>sizA s x.2) 10000000000 s.bx (fun x hx=>sizA_le h (h.ba x hx))
 have h2:=h.lens.1
 have h3:=h.big
 have h4:s.bx.length*10000000000≤100000*10000000000:=Nat.mul_le_mul_right _ (by omega)
 omega

end

end Go.Proofs.YtcfociogljhbiaaGreatDoor

namespace Go.Proofs.YtcfociogljhbiaaGreatDoor
open Go.RowKit Go.Maps Go.Sort

theorem ExtC.low{w w':World}{ρ ρ':Nat→Nat}(h:ExtC w' ρ ρ')(hs:w.heap.size≤w'.heap.size):ExtC w ρ ρ':=fun k=>(h k).imp id (fun e=>⟨by omega,e.2⟩)

theorem ExtC.zero{w:World}{ρ ρ':Nat→Nat}(h:ExtC w ρ ρ'){k:Nat}(hk:k<w.heap.size)(h0:ρ k=0):ρ' k=0:=by
 rcases h k with h1 | h1
 ·rw[h1];exact h0
 ·omega

theorem Ck.zero{K N:Nat}{w:World}{p:Nat}{s:Cs}{ρ:Nat→Nat}{mb:Nat}(h:Ck K N w p s ρ mb){k:Nat}(hk:w.heap.size≤k):ρ k=0:=by
 cases hz:ρ k with
 | zero=>rfl
 | succ q=>have:=(h.new k (by omega)).2;omega

theorem verOf_ok(x:Wr)(t:Int):((verOf x t).there=false→(verOf x t).data=⟨#[]⟩)∧(verOf x t).data.size≤maxLen:=by
 unfold verOf
 split
 ·exact⟨fun e=>(by cases e),x.ok⟩
 ·exact⟨fun _=>rfl,Nat.zero_le _⟩

theorem putsF_snoc(f:Vs)(ws:List Wr)(x:Wr)(t:Int):putsF f (ws++[x]) t=putF (putsF f ws t) x t:=by
 unfold putsF
 rw[List.foldl_append]
 rfl

set_option maxRecDepth 100000 in
set_option maxHeartbeats 4000000 in
theorem cput_new{K N:Nat}{w:World}{p:Nat}{s:Cs}{ρ:Nat→Nat}{mb:Nat}(h:Ck K N w p s ρ mb)(hN:N≤w.heap.size)(t:Int)(ht:s.now<t)(ht2:t≤9223372036854775807)(ws:List Wr)(v:Value)(I:Nat→Prop)(hs:SrcC 5 wrE w I v ws)(hI:∀j,I j→ρ j=0)(hK:K+3*ws.length≤100000):
  Calls Tryz.prog 36 #[.pointer (some ⟨p,0,none⟩),.agg #[.int .i64 t,v]] w fun e w'=>e=.returned (.int .i64 0)∧PuA K N w p s ρ mb t ws w':=by
 have b1:decide (t≤s.now)=false:=by simp;omega
 obtain⟨ao,cap,hv,hcap,_⟩:=id hs
 obtain⟨L,hL⟩:∃L,L=ws.length:=⟨_,rfl⟩
 rw[←hL]at hv
 subst hv
 have HSR:Hid (SrcC 5 wrE w I (.slice ao L cap) ws):=hs
 have HL:Hid (L=ws.length):=hL
 obtain⟨wA,hwA⟩:∃W,W=w.alloc (.cells #[.int .i64 t,.slice ao L cap] 59):=⟨_,rfl⟩
 have hka:Same w wA:=by rw[hwA];exact(Kept.refl _ w).alloc _
 obtain⟨xb,hxb⟩:∃x,x=w.heap.size:=⟨_,rfl⟩
 have BA:Hid (Blk wA xb #[.int .i64 t,.slice ao L cap] 59):=hid (by rw[hwA,hxb];exact Blk.new w _ _)
 have x0:=BA.out.cell 0
 have x1:=BA.out.cell 1
 have p0:wA.cell? ⟨p,0,none⟩=some (.int .i64 s.now):=(h.same hka).blk.cell 0
 have zp:=(h.same hka).blk.frozen 0
 simp at x0 x1
 have HC:Hid (Ck K N w p s ρ mb):=h
 have HKA:Hid (Same w wA):=hka
 have HQ:Hid (N≤w.heap.size∧s.now<t∧t≤9223372036854775807∧K+3*ws.length≤100000∧xb=w.heap.size):=hid ⟨hN,ht,ht2,hK,hxb⟩
 have HI:Hid (∀j,I j→ρ j=0):=hI
 have HXP:Hid (¬xb=p):=hid (fun e=>by have:=h.blk.lt;omega)
 have hL9:L≤100000:=by omega
 clear h hN ht ht2 hs hI hK hka hcap hL
 go_enter Tryz.func36,Tryz.ntmps36
 go_upto_region 3 with fail
 rw[←hwA,←hxb]
 clear hwA hxb
 go_region
 obtain⟨wB,hwB⟩:∃W,W=(wA.setCell ⟨p,0,none⟩ (.int .i64 t)).drew:=⟨_,rfl⟩
 have hkB:Kept (·=p) wA wB:=by rw[hwB];exact((Kept.refl (·=p) wA).setCell _ _ (.inl rfl)).drew
 have hpB:Blk wB p #[.int .i64 t,.int .i64 s.floor,.map (some mb)] 142:=by
  rw[hwB]
  have h9:=(HC.out.same HKA.out).blk.set 0 (.int .i64 t)
  have h8:Blk (wA.setCell ⟨p,0,none⟩ (.int .i64 t)) p #[.int .i64 t,.int .i64 s.floor,.map (some mb)] 142:=by simpa using h9
  exact h8
 have HCB:Hid (Ck K N wB p {s with now:=t} ρ mb):=hid ((HC.out.same HKA.out).setNow (by have:=HQ.out;omega) HQ.out.2.2.1 hpB hkB)
 have HBX:Hid (Blk wB xb #[.int .i64 t,.slice ao L cap] 59):=hid (BA.out.kept hkB HXP.out)
 have HKB:Hid (Kept (·=p) w wB):=hid (Kept.trans HKA.out hkB (fun _ _ f=>f.elim) (fun _ _ e=>e))
 have HSB:Hid (SrcC 5 wrE wB I (.slice ao L cap) ws):=hid (HSR.out.kept wrE_ok HKB.out (fun j hj hlt e=>by have:=HI.out j hj;rw[e,HC.out.rp]at this;cases this))
 have x1B:=HBX.out.cell 1
 simp at x1B
 have HX0:Hid (ρ xb=0):=hid (HC.out.zero (by have:=HQ.out;omega))
 have x1B':(wA.setCell ⟨p,0,none⟩ (.int .i64 t)).cell? ⟨xb,1,none⟩=some (.slice ao L cap):=by have:=x1B;rw[hwB]at this;exact this
 have HSZ:Hid (w.heap.size≤wB.heap.size):=hid HKB.out.size
 have HXL:Hid (xb<wB.heap.size):=hid HBX.out.lt
 clear hkB hpB
 go_wp2_with fail
 rw[←hwB]
 clear hwB x1B' x1B x0 x1 p0 zp
 go_loopg [24] L (fun q z24 wr=>∃(i:Nat) (si:Cs) (ρi:Nat→Nat),L-i≤q∧i≤L∧z24=.int .i64 (i:Nat)∧Hid (Ck (K+3*i) N wr p si ρi mb∧vers si=putsF (vers s) (ws.take i) t∧si.now=t∧si.floor=s.floor∧ExtC wB ρ ρi∧Kept (fun k=>ρ k≠0) wB wr))
 case atStart=>exact⟨0,{s with now:=t},ρ,by omega,by omega,rfl,hid ⟨HCB.out,rfl,rfl,rfl,ExtC.refl _ _,Kept.refl _ _⟩⟩
 case round=>
  obtain⟨i,si,ρi,hq,hi,rfl,HR⟩:=hrel
  by_cases hlt:i<L
  ·have hzx:ρi xb=0:=HR.out.2.2.2.2.1.zero HXL.out HX0.out
   have hbx:Blk wr xb #[.int .i64 t,.slice ao L cap] 59:=HBX.out.kept HR.out.2.2.2.2.2 (fun e=>e HX0.out)
   obtain⟨b,o,e1,_,hcell⟩:∃b o,ao=some ⟨b,o,none⟩∧True∧∀j (_:j<ws.length) m (_:m<5),wr.cell? ⟨b,o+(j*5+m),none⟩=(wrE ws[j])[m]?:=by
    obtain⟨ao',cap',e1,_,e2⟩:=HSB.out.kept wrE_ok HR.out.2.2.2.2.2 (fun j hj _ e=>e (HI.out j hj))
    injection e1 with e3 _ _
    subst e3
    obtain⟨b,o,e4,_,e5⟩:=e2 (by intro e;have:=HL.out;rw[e]at this;simp at this;omega)
    exact⟨b,o,e4,trivial,e5⟩
   subst e1
   have hiw:i<ws.length:=by have:=HL.out;omega
   obtain⟨x,hx⟩:∃x,x=ws[i]:=⟨_,rfl⟩
   have f0:=hcell i hiw 0 (by decide)
   have f1:=hcell i hiw 1 (by decide)
   have f2:=hcell i hiw 2 (by decide)
   have f3:=hcell i hiw 3 (by decide)
   have f4:=hcell i hiw 4 (by decide)
   rw[←hx]at f0 f1 f2 f3 f4
   rw[Nat.add_zero]at f0
   rw[←Nat.add_assoc]at f1 f2 f3 f4
   have HXI:Hid (ws.take (i+1)=ws.take i++[x]):=hid (by rw[List.take_succ_eq_append_getElem hiw,hx])
   obtain⟨wG,hwG⟩:∃W,W=wr.alloc (.cells #[.string x.b.tn,.string x.b.ar,.string x.n.s,.bool x.there,.string x.data] 65):=⟨_,rfl⟩
   have hkG:Same wr wG:=by rw[hwG];exact(Kept.refl _ _).alloc _
   obtain⟨g,hg⟩:∃g,g=wr.heap.size:=⟨_,rfl⟩
   have hbg:Blk wG g #[.string x.b.tn,.string x.b.ar,.string x.n.s,.bool x.there,.string x.data] 65:=by rw[hwG,hg];exact Blk.new wr _ _
   have hzg:ρi g=0:=HR.out.1.zero (by omega)
   have HZ:Hid (¬(ρi g≠0)∧¬(ρi xb≠0)∧g<wG.heap.size∧xb<wG.heap.size):=hid ⟨fun e=>e hzg,fun e=>e hzx,hbg.lt,Nat.lt_of_lt_of_le hbx.lt hkG.size⟩
   have HCG:Hid (Ck (K+3*i) N wG p si ρi mb):=hid (HR.out.1.same hkG)
   have hNG:N≤wG.heap.size:=by have h1:=HQ.out.1;have h2:=HSZ.out;have h3:=HR.out.2.2.2.2.2.size;have h4:=hkG.size;omega
   have HNG:Hid (N≤wG.heap.size∧Same wr wG):=hid ⟨hNG,hkG⟩
   have HMD:Hid (∀W,Same wG W→Calls Tryz.prog 77 #[.pointer (some ⟨p,0,none⟩),.agg #[.string x.b.tn,.string x.b.ar,.string x.n.s]] W fun e w'=>MdA (K+3*i+2) N W p si ρi mb x.b x.n e w'):=hid (fun W hk=>made_any (HCG.out.same hk) (Nat.le_trans hNG hk.size) (by have:=HQ.out.2.2.2.1;omega) x.b x.n)
   have HVO:Hid (∀W,Calls Tryz.prog 79 #[.agg #[.string x.b.tn,.string x.b.ar,.string x.n.s,.bool x.there,.string x.data],.int .i64 t] W fun e w'=>e=.returned (.agg #[.int .i64 (verOf x t).t,.bool (verOf x t).there,.string (verOf x t).data])∧Same W w'):=hid (fun W=>versionOf_any W x t)
   have HPU:Hid (∀W s2 ρ2 c,Ck (K+3*i+2) N W p s2 ρ2 mb→fndC s2 x.b x.n=some c→s2.now=t→N≤W.heap.size→Calls Tryz.prog 78 #[.pointer (some ⟨c,0,none⟩),.agg #[.int .i64 (verOf x t).t,.bool (verOf x t).there,.string (verOf x t).data]] W fun e w'=>e=.returned (.tuple #[])∧∃s' ρ',Ck (K+3*i+2+1) N w' p s' ρ' mb∧(∀b' n',vers s' b' n'=if b'=x.b∧n'=x.n then putV (vers s2 x.b x.n) (verOf x t)else vers s2 b' n')∧s'.now=s2.now∧s'.floor=s2.floor∧ExtC W ρ2 ρ'∧Kept (fun k=>ρ2 k≠0) W w'):=hid (fun W s2 ρ2 c h1 h2 h3 h4=>put_any h1 h4 (by have:=HQ.out.2.2.2.1;omega) h2 (verOf x t) (by rw[verOf_t];have:=HQ.out;have:=HC.out.nums;omega) (by rw[verOf_t,h3];exact Int.le_refl _) (verOf_ok x t).1 (verOf_ok x t).2)
   have c0:=hbg.cell 0
   have c1:=hbg.cell 1
   have c2:=hbg.cell 2
   have c3:=hbg.cell 3
   have c4:=hbg.cell 4
   have d0:=hkG.cell (hbx.cell 0) (fun f=>f)
   simp at c0 c1 c2 c3 c4
   simp only[wrE,List.getElem?_cons_zero,List.getElem?_cons_succ]at f0 f1 f2 f3 f4
   have hli:(i:Int)<(L:Int):=by omega
   clear hcell hiw hx hkG hbg hzg hzx hbx hNG
   go_wp2_with fail
   rw[←hwG,←hg]
   clear hwG hg f0 f1 f2 f3 f4
   have hs0:Same wG wG:=Kept.refl _ _
   go_region_held3 (fun w'=>w'.cell? ⟨g,0,none⟩=some (.string x.b.tn)∧w'.cell? ⟨g,1,none⟩=some (.string x.b.ar)∧w'.cell? ⟨g,2,none⟩=some (.string x.n.s)∧w'.cell? ⟨g,3,none⟩=some (.bool x.there)∧w'.cell? ⟨g,4,none⟩=some (.string x.data)∧w'.cell? ⟨xb,0,none⟩=some (.int .i64 t))
    (first
     | (go_split_ands;exact⟨hm7.cell (by assumption) HZ.out.1,hm7.cell (by assumption) HZ.out.1,hm7.cell (by assumption) HZ.out.1,hm7.cell (by assumption) HZ.out.1,hm7.cell (by assumption) HZ.out.1,hm7.cell (by assumption) HZ.out.2.1⟩)
     | (go_split_ands;exact⟨hkv.cell (by assumption) (fun f=>f),hkv.cell (by assumption) (fun f=>f),hkv.cell (by assumption) (fun f=>f),hkv.cell (by assumption) (fun f=>f),hkv.cell (by assumption) (fun f=>f),hkv.cell (by assumption) (fun f=>f)⟩)
     | (go_split_ands;exact⟨hp6.cell (by assumption) hzz.out.1,hp6.cell (by assumption) hzz.out.1,hp6.cell (by assumption) hzz.out.1,hp6.cell (by assumption) hzz.out.1,hp6.cell (by assumption) hzz.out.1,hp6.cell (by assumption) hzz.out.2⟩)
     | go_keep)
    (first
     | (go_at_call 77;refine(HMD.out _ (by first | exact hs0 | exact hs0.drew | exact hkv | exact Kept.undrewC hkv)).mono ?_;rintro e wm ⟨c,s2,ρ2,rfl,hm1,hm2,hm3,hm4,hm5,hm6,hm7⟩;have hzz:Hid (¬(ρ2 g≠0)∧¬(ρ2 xb≠0)):=hid ⟨fun e=>e (hm6.zero (by first | exact HZ.out.2.2.1 | exact Nat.lt_of_lt_of_le HZ.out.2.2.1 hkv.size) (Decidable.not_not.1 HZ.out.1)),fun e=>e (hm6.zero (by first | exact HZ.out.2.2.2 | exact Nat.lt_of_lt_of_le HZ.out.2.2.2 hkv.size) (Decidable.not_not.1 HZ.out.2.1))⟩)
     | (go_at_call 79;refine(HVO.out _).mono ?_;rintro e wv ⟨rfl,hkv⟩)
     | (go_at_call 78;refine(HPU.out _ s2 ρ2 c (by first | exact hm1 | exact hm1.same hkv) hm2 (by rw[hm4];exact HR.out.2.2.1) (by have h1:=HNG.out.1;have h2:=hm7.size;have h3:=hkv.size;first | omega | (simp at h1 h2 h3;omega) | (simp at h2 h3;omega) | (simp at h2;omega) | (simp at h3;omega))).mono ?_;rintro e wp ⟨rfl,s3,ρ3,hp1,hp2,hp3,hp4,hp5,hp6⟩))
   have HF:Hid (Ck (K+3*(i+1)) N wp p s3 ρ3 mb∧vers s3=putsF (vers s) (ws.take (i+1)) t∧s3.now=t∧s3.floor=s.floor∧ExtC wB ρ ρ3∧Kept (fun k=>ρ k≠0) wB wp):=hid (by
    have hr:=HR.out
    have e1:K+3*(i+1)=K+3*i+2+1:=by omega
    have s1:wB.heap.size≤wr.heap.size:=hr.2.2.2.2.2.size
    have s2':wr.heap.size≤wG.heap.size:=HNG.out.2.size
    have s3':wG.drew.heap.size≤wm.heap.size:=hm7.size
    have s4':wm.heap.size≤wv.heap.size:=hkv.size
    have k1:Kept (fun k=>ρi k≠0) wr wm:=Kept.trans HNG.out.2 (Kept.undrewC hm7) (fun _ _ f=>f.elim) (fun _ _ e=>e)
    have k2:Kept (fun k=>ρ2 k≠0) wm wp:=Kept.trans hkv hp6 (fun _ _ f=>f.elim) (fun _ _ e=>e)
    have x1:ExtC wr ρi ρ2:=hm6.low s2'
    have x2:ExtC wm ρ2 ρ3:=hp5.low s4'
    have x3:ExtC wr ρi ρ3:=x1.trans x2 k1.size
    refine⟨by rw[e1];exact hp1,?_,?_,?_,hr.2.2.2.2.1.trans x3 s1,hr.2.2.2.2.1.kept hr.2.2.2.2.2 (x1.kept k1 k2)⟩
    ·rw[HXI.out,putsF_snoc,←hr.2.1]
     funext b' n'
     rw[hp2]
     unfold putF
     by_cases e:b'=x.b∧n'=x.n
     ·rw[if_pos e,if_pos e,hm3,e.1,e.2]
     ·rw[if_neg e,if_neg e,hm3]
    ·rw[hp3,hm4];exact hr.2.2.1
    ·rw[hp4,hm5];exact hr.2.2.2.1)
   clear hm1 hm2 hm3 hm4 hm5 hm6 hm7 hzz hkv hp1 hp2 hp3 hp4 hp5 hp6 c0 c1 c2 c3 c4 d0
   have hii:(i:Int)+1=((i+1:Nat):Int):=by omega
   have HII:=hid hii
   clear hii
   go_wp2_with fail
   go_roundg (gk-1)
   case measure=>omega
   case rel=>exact⟨i+1,s3,ρ3,by omega,by omega,by go_num,HF⟩
  ·have e:i=L:=by omega
   have HF:Hid (PuA K N w p s ρ mb t ws wr):=hid (by
    have hr:=HR.out
    rw[e]at hr
    refine⟨si,ρi,by rw[←HL.out];exact hr.1,?_,hr.2.2.1,hr.2.2.2.1,hr.2.2.2.2.1.low HSZ.out,?_⟩
    ·rw[hr.2.1,HL.out,List.take_length]
    ·exact Kept.trans HKB.out hr.2.2.2.2.2 (fun k _ e=>by rw[e,HC.out.rp];decide) (fun _ _ e=>e))
   go_wp2_with fail
   go_ret
   exact⟨rfl,HF.out⟩

end Go.Proofs.YtcfociogljhbiaaGreatDoor
